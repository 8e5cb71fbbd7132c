"""Wrong places: each why with its line and word, and which comes first."""

import unittest

from tests.helper import ask, wrong_place

# 2 coins; an order of 3 lines; two deliveries; an invoice with a discount and two rates; a credit note
BASE = """money EUR 2
money JPY 0
order O1 coin EUR day 10
line bolt 10 at 1.05 rate 1900
line nut 20 at 0.33 rate 700
line gift 5 at 0.00 rate 700
end
delivery D1 coin EUR day 12 refers O1
line 1 6
line 3 5
end
delivery D2 coin EUR day 12 refers O1
line 2 8
end
invoice I1 coin EUR day 14 refers D1
line 1 4 = 4.20
line 3 2 = 0.00
less 0.21
tax 700 0.00 = 0.00
tax 1900 3.99 = 0.76
total 4.75
end
credit C1 coin EUR day 16 refers I1
line 1 1 = 1.00
tax 1900 1.00 = 0.19
total 1.19
end
"""
ORDER = "order A1 coin EUR day 1\n"
DELIVERY = "delivery A1 coin EUR day 12 refers O1\n"
INVOICE = "invoice A1 coin EUR day 14 refers D1\n"
CREDIT = "credit A1 coin EUR day 16 refers I1\n"
RIGHT = (0, 0, 0)


class Places(unittest.TestCase):
    def told(self, written, place):
        """The place is told by check, read refuses, and nothing of the text is filed."""
        self.assertEqual(wrong_place(written, BASE), place, written)
        before, refused, after = ask(("read", BASE), ("read", written), ("file",))
        if place == RIGHT:
            self.assertEqual(refused[0], 0, written)
        else:
            self.assertEqual(refused, [-5], written)
            self.assertEqual(after, ask(("read", BASE), ("file",))[1], written)

    def all_told(self, rows):
        for written, place in rows:
            with self.subTest(written=written):
                self.told(written, place)


class Lines(Places):
    def test_right_texts(self):
        self.all_told([
            ("", RIGHT),
            ("\n", RIGHT),
            ("\n  \n\n", RIGHT),
            ("money USD 3", RIGHT),
            ("money USD 3\n", RIGHT),
            ("   money   USD  3   \n", RIGHT),
            ("\n\n" + ORDER + "\n   \n  line a 1 at 0.00 rate 0\n\n   end   ", RIGHT),
        ])

    def test_lines_without_words_are_counted(self):
        self.all_told([
            ("\n\nmoney USD 5", (3, 3, 4)),
            ("  \n" + "money USD 2\n\n" + "x", (4, 1, 1)),
        ])

    def test_blanks_at_the_beginning_are_no_words(self):
        self.told("    money USD 5\n", (1, 3, 4))
        self.told(" x", (1, 1, 1))

    def test_lacking_words(self):
        self.all_told([
            ("money", (1, 2, 1)),
            ("money USD", (1, 3, 1)),
            ("money USD  ", (1, 3, 1)),
            ("money USD \nmoney CHF 2\n", (1, 3, 1)),
            ("order", (1, 2, 1)),
            ("order A1", (1, 3, 1)),
            ("order A1 coin", (1, 4, 1)),
            ("order A1 coin EUR", (1, 5, 1)),
            ("order A1 coin EUR day", (1, 6, 1)),
            ("delivery A1 coin EUR day 12", (1, 7, 1)),
            ("delivery A1 coin EUR day 12 refers", (1, 8, 1)),
            (ORDER + "line", (2, 2, 1)),
            (ORDER + "line a", (2, 3, 1)),
            (ORDER + "line a 1", (2, 4, 1)),
            (ORDER + "line a 1 at", (2, 5, 1)),
            (ORDER + "line a 1 at 1.00", (2, 6, 1)),
            (ORDER + "line a 1 at 1.00 rate", (2, 7, 1)),
            (DELIVERY + "line", (2, 2, 1)),
            (DELIVERY + "line 1", (2, 3, 1)),
            (INVOICE + "line 1 1", (2, 4, 1)),
            (INVOICE + "line 1 1 =", (2, 5, 1)),
            (INVOICE + "line 1 1 = 1.05\nless", (3, 2, 1)),
            (INVOICE + "line 1 1 = 1.05\ntax", (3, 2, 1)),
            (INVOICE + "line 1 1 = 1.05\ntax 1900", (3, 3, 1)),
            (INVOICE + "line 1 1 = 1.05\ntax 1900 1.05", (3, 4, 1)),
            (INVOICE + "line 1 1 = 1.05\ntax 1900 1.05 =", (3, 5, 1)),
            (INVOICE + "line 1 1 = 1.05\ntax 1900 1.05 = 0.20\ntotal", (4, 2, 1)),
        ])

    def test_words_behind_the_last(self):
        self.all_told([
            ("money USD 2 x", (1, 4, 1)),
            ("order A1 coin EUR day 1 refers O1", (1, 7, 1)),
            ("delivery A1 coin EUR day 12 refers O1 x", (1, 9, 1)),
            (ORDER + "line a 1 at 1.00 rate 0 0", (2, 8, 1)),
            (DELIVERY + "line 1 1 = 0.00", (2, 4, 1)),
            (INVOICE + "line 1 1 = 1.05 1.05", (2, 6, 1)),
            (INVOICE + "line 1 1 = 1.05\nless 0.01 0.01", (3, 3, 1)),
            (INVOICE + "line 1 1 = 1.05\ntax 1900 1.05 = 0.20 x", (3, 6, 1)),
            (INVOICE + "line 1 1 = 1.05\ntax 1900 1.05 = 0.20\ntotal 1.25 x", (4, 3, 1)),
            (ORDER + "line a 1 at 1.00 rate 0\nend x", (3, 2, 1)),
        ])

    def test_the_texts_end_within_a_document(self):
        self.all_told([
            (ORDER[:-1], (2, 1, 1)),
            (ORDER, (2, 1, 1)),
            (ORDER + "\n", (3, 1, 1)),
            (ORDER + " ", (3, 1, 1)),
            (ORDER + "line a 1 at 1.00 rate 0", (3, 1, 1)),
            (ORDER + "line a 1 at 1.00 rate 0\n", (3, 1, 1)),
            (ORDER + "line a 1 at 1.00 rate 0\n\n  \n", (5, 1, 1)),
            (ORDER + "line a 1 at 1.00 rate 0\nend", RIGHT),
            (INVOICE + "line 1 1 = 1.05\ntax 1900 1.05 = 0.20\ntotal 1.25\n", (5, 1, 1)),
        ])


class Why1(Places):
    def test_between_documents(self):
        for word in ("x", "Money", "line", "end", "total", "tax", "less", "=", "orders", "?", "\t", "\r", "\0", "\xff"):
            self.told(word + " USD 2\n", (1, 1, 1))

    def test_within_documents(self):
        line = "line 1 1 = 1.05\n"
        tax = "tax 1900 1.05 = 0.20\n"
        self.all_told([
            (ORDER + "end", (2, 1, 1)),
            (ORDER + "money USD 2", (2, 1, 1)),
            (ORDER + "order B1 coin EUR day 1", (2, 1, 1)),
            (ORDER + "line a 1 at 1.00 rate 0\nless 1.00", (3, 1, 1)),
            (ORDER + "line a 1 at 1.00 rate 0\ntax 0 1.00 = 0.00", (3, 1, 1)),
            (ORDER + "line a 1 at 1.00 rate 0\ntotal 1.00", (3, 1, 1)),
            (DELIVERY + "end", (2, 1, 1)),
            (DELIVERY + "line 1 1\ntotal 0.00", (3, 1, 1)),
            (INVOICE + "end", (2, 1, 1)),
            (INVOICE + "less 0.01", (2, 1, 1)),
            (INVOICE + tax, (2, 1, 1)),
            (INVOICE + line + "end", (3, 1, 1)),
            (INVOICE + line + "total 1.05", (3, 1, 1)),
            (INVOICE + line + "less 0.01\nless 0.01", (4, 1, 1)),
            (INVOICE + line + "less 0.01\nline 3 1 = 0.00", (4, 1, 1)),
            (INVOICE + line + "less 0.01\ntotal 1.05", (4, 1, 1)),
            (INVOICE + line + tax + tax, (4, 1, 1)),
            (INVOICE + line + tax + "less 0.01", (4, 1, 1)),
            (INVOICE + line + tax + "line 3 1 = 0.00", (4, 1, 1)),
            (INVOICE + line + tax + "end", (4, 1, 1)),
            (INVOICE + line + tax + "total 1.25\ntotal 1.25", (5, 1, 1)),
            (INVOICE + line + "line 3 1 = 0.00\ntax 700 0.00 = 0.00\ntotal 0.00", (5, 1, 1)),
            (CREDIT + "line 1 1 = 1.00\nless 0.01", (3, 1, 1)),
            (CREDIT + "line 1 1 = 1.00\ntotal 1.00", (3, 1, 1)),
            (CREDIT + "line 1 1 = 1.00\nend", (3, 1, 1)),
        ])

    def test_other_words_than_due(self):
        self.all_told([
            ("order A1 Coin EUR day 1", (1, 3, 1)),
            ("order A1 coin EUR days 1", (1, 5, 1)),
            ("delivery A1 coin EUR day 12 to O1", (1, 7, 1)),
            (ORDER + "line a 1 = 1.00 rate 0", (2, 4, 1)),
            (ORDER + "line a 1 at 1.00 tax 0", (2, 6, 1)),
            (INVOICE + "line 1 1 at 1.05", (2, 4, 1)),
            (INVOICE + "line 1 1 == 1.05", (2, 4, 1)),
            (INVOICE + "line 1 1 =1.05", (2, 4, 1)),
            (INVOICE + "line 1 1 = 1.05\ntax 1900 1.05 0.20", (3, 4, 1)),
        ])

    def test_form_of_coin(self):
        for word in ("EU", "EURO", "eur", "EUr", "E1R", "123", "E\tR", "E\xc4R"):
            self.told(f"money {word} 2", (1, 2, 1))
            self.told(f"order A1 coin {word} day 1", (1, 4, 1))

    def test_form_of_item(self):
        for word in ("1a", "A", "aB", "a-b", "a.", "abcdefghijk", "=", "\xe4", "a\tb"):
            self.told(ORDER + f"line {word} 1 at 1.00 rate 0", (2, 2, 1))
        for word in ("a", "z9", "abcdefghij", "a123456789"):
            self.told(ORDER + f"line {word} 1 at 1.00 rate 0\nend", RIGHT)

    def test_form_of_document_names(self):
        for word in ("A", "a1", "1", "A12345678", "AB1", "A1b", "A-1", "11", "A1.", "="):
            self.told(f"order {word} coin EUR day 1", (1, 2, 1))
            self.told(f"delivery B1 coin EUR day 12 refers {word}", (1, 8, 1))
        for word in ("A0", "Z1234567", "A0000001"):
            self.told(f"order {word} coin EUR day 1\nline a 1 at 1.00 rate 0\nend", RIGHT)

    def test_form_of_numbers(self):
        for word in ("00", "01", "0000000001", "1234567890", "-1", "+1", "1.0", "a", "1a", "=", "\xb2", "1_0"):
            self.told(f"money USD {word}", (1, 3, 1))
            self.told(f"order A1 coin EUR day {word}", (1, 6, 1))
            self.told(ORDER + f"line a {word} at 1.00 rate 0", (2, 3, 1))
            self.told(ORDER + f"line a 1 at 1.00 rate {word}", (2, 7, 1))
            self.told(DELIVERY + f"line {word} 1", (2, 2, 1))
            self.told(DELIVERY + f"line 1 {word}", (2, 3, 1))
            self.told(INVOICE + f"line 1 1 = 1.05\ntax {word} 1.05 = 0.20", (3, 2, 1))

    def test_form_of_amounts(self):
        bad = ("1", "1.0", "1.000", ".50", "1.", "01.00", "00.00", "1,00", "-1.00", "1..00", "1.0.0", "a.00", "1.a0",
               "12345678901234.00", "0000000000001.00", "=")
        for word in bad:
            self.told(ORDER + f"line a 1 at {word} rate 0", (2, 5, 1))
            self.told(INVOICE + f"line 1 1 = {word}", (2, 5, 1))
            self.told(INVOICE + f"line 1 1 = 1.05\nless {word}", (3, 2, 1))
            self.told(INVOICE + f"line 1 1 = 1.05\ntax 1900 {word} = 0.20", (3, 3, 1))
            self.told(INVOICE + f"line 1 1 = 1.05\ntax 1900 1.05 = {word}", (3, 5, 1))
            self.told(INVOICE + f"line 1 1 = 1.05\ntax 1900 1.05 = 0.20\ntotal {word}", (4, 2, 1))

    def test_form_of_amounts_without_digits(self):
        order = "order A1 coin JPY day 1\n"
        for word in ("1.0", "1.", "0.00", "00", "01", "12345678901234", "x"):
            self.told(order + f"line a 1 at {word} rate 0", (2, 5, 1))
        self.told(order + "line a 1 at 0 rate 0\nend", RIGHT)

    def test_digits_behind_the_point(self):
        for digits, right in ((0, "7"), (1, "7.1"), (2, "7.12"), (3, "7.123"), (4, "7.1234")):
            for k, word in enumerate(("7", "7.1", "7.12", "7.123", "7.1234", "7.12345")):
                written = f"money USD {digits}\norder A1 coin USD day 1\nline a 1 at {word} rate 0\nend"
                self.told(written, RIGHT if k == digits else (3, 5, 1))


class Why2(Places):
    def test_told_already(self):
        self.all_told([
            ("money EUR 2", (1, 2, 2)),
            ("money USD 2\nmoney USD 2", (2, 2, 2)),
            ("order O1 coin EUR day 1", (1, 2, 2)),
            ("order I1 coin EUR day 1", (1, 2, 2)),
            ("delivery C1 coin EUR day 12 refers O1", (1, 2, 2)),
            (ORDER + "line a 1 at 1.00 rate 0\nend\n" + ORDER, (4, 2, 2)),
            (ORDER + "line a 1 at 1.00 rate 0\nline a 1 at 1.00 rate 0", (3, 2, 2)),
            (DELIVERY + "line 1 1\nline 1 1", (3, 2, 2)),
            (DELIVERY + "line 2 1\nline 1 1", (3, 2, 2)),
            (DELIVERY + "line 1 1\nline 2 1\nline 2 1", (4, 2, 2)),
            (INVOICE + "line 3 1 = 0.00\nline 1 1 = 1.05", (3, 2, 2)),
            (CREDIT + "line 1 1 = 1.00\nline 1 1 = 1.00", (3, 2, 2)),
        ])

    def test_an_item_of_another_order(self):
        self.told(ORDER + "line bolt 1 at 1.00 rate 0\nend", RIGHT)

    def test_names_differ_by_their_zeros(self):
        self.told("order O01 coin EUR day 1\nline a 1 at 1.00 rate 0\nend", RIGHT)


class Why3(Places):
    def test_not_there(self):
        self.all_told([
            ("order A1 coin USD day 1", (1, 4, 3)),
            ("delivery A1 coin EUR day 12 refers O2", (1, 8, 3)),
            ("delivery A1 coin EUR day 12 refers A1", (1, 8, 3)),
            ("delivery A1 coin EUR day 20 refers D1", (1, 8, 3)),
            ("invoice A1 coin EUR day 20 refers O1", (1, 8, 3)),
            ("invoice A1 coin EUR day 20 refers I1", (1, 8, 3)),
            ("credit A1 coin EUR day 20 refers D1", (1, 8, 3)),
            ("credit A1 coin EUR day 20 refers C1", (1, 8, 3)),
            (DELIVERY + "line 4 1", (2, 2, 3)),
            (INVOICE + "line 2 1 = 0.33", (2, 2, 3)),
            ("invoice A1 coin EUR day 14 refers D2\nline 1 1 = 1.05", (2, 2, 3)),
            (CREDIT + "line 2 1 = 0.33", (2, 2, 3)),
        ])

    def test_not_there_behind_a_document_of_the_kind_to_refer_to(self):
        ordered = ORDER + "line a 1 at 1.00 rate 0\nend\n"
        delivered = DELIVERY + "line 1 1\nend\n"
        invoiced = INVOICE + "line 3 1 = 0.00\ntax 700 0.00 = 0.00\ntotal 0.00\nend\n"
        self.all_told([
            (ordered + "delivery B1 coin EUR day 20 refers O9", (4, 8, 3)),
            (delivered + "invoice B1 coin EUR day 20 refers D9", (4, 8, 3)),
            (invoiced + "credit B1 coin EUR day 20 refers I9", (6, 8, 3)),
        ])

    def test_not_there_where_nothing_is_filed(self):
        self.assertEqual(wrong_place("money EUR 2\ndelivery A1 coin EUR day 1 refers O1"), (2, 8, 3))
        self.assertEqual(wrong_place("order A1 coin EUR day 1"), (1, 4, 3))

    def test_a_coin_or_document_of_the_same_text_is_there(self):
        written = "money USD 0\norder A1 coin USD day 1\nline a 1 at 1 rate 0\nend\n"
        self.told(written + "delivery A2 coin USD day 1 refers A1\nline 1 1\nend", RIGHT)


class Why4(Places):
    def test_ranges(self):
        self.all_told([
            ("money USD 4", RIGHT),
            ("money USD 0", RIGHT),
            ("money USD 5", (1, 3, 4)),
            ("money USD 999999999", (1, 3, 4)),
            ("order A1 coin EUR day 0\nline a 1 at 1.00 rate 0\nend", RIGHT),
            ("order A1 coin EUR day 100000\nline a 1 at 1.00 rate 0\nend", RIGHT),
            ("order A1 coin EUR day 100001", (1, 6, 4)),
            ("delivery A1 coin EUR day 100001 refers O1", (1, 6, 4)),
            ("credit A1 coin EUR day 999999999 refers I1", (1, 6, 4)),
            (ORDER + "line a 0 at 1.00 rate 0", (2, 3, 4)),
            (ORDER + "line a 10000 at 1.00 rate 0\nend", RIGHT),
            (ORDER + "line a 10001 at 1.00 rate 0", (2, 3, 4)),
            (ORDER + "line a 123456789 at 1.00 rate 0", (2, 3, 4)),
            (ORDER + "line a 1 at 0.00 rate 0\nend", RIGHT),
            (ORDER + "line a 1 at 10000.00 rate 0\nend", RIGHT),
            (ORDER + "line a 1 at 10000.01 rate 0", (2, 5, 4)),
            (ORDER + "line a 1 at 1234567890123.00 rate 0", (2, 5, 4)),
            (ORDER + "line a 1 at 1.00 rate 5000\nend", RIGHT),
            (ORDER + "line a 1 at 1.00 rate 5001", (2, 7, 4)),
            (DELIVERY + "line 0 1", (2, 2, 4)),
            (DELIVERY + "line 9 1", (2, 2, 4)),
            (DELIVERY + "line 1 0", (2, 3, 4)),
            (DELIVERY + "line 1 10001", (2, 3, 4)),
            (INVOICE + "line 9 1 = 1.00", (2, 2, 4)),
            (INVOICE + "line 1 0 = 0.00", (2, 3, 4)),
        ])

    def test_rate_of_a_tax_line(self):
        self.all_told([
            (INVOICE + "line 1 2 = 2.10\ntax 5001 2.10 = 0.40", (3, 2, 4)),
            (INVOICE + "line 1 2 = 2.10\ntax 999999999 2.10 = 0.40", (3, 2, 4)),
            (INVOICE + "line 1 2 = 2.10\ntax 1000000000 2.10 = 0.40", (3, 2, 1)),
            (INVOICE + "line 1 1 = 1.05\nline 3 1 = 0.00\ntax 700 0.00 = 0.00\ntax 5001 1.05 = 0.20", (5, 2, 4)),
            (CREDIT + "line 1 1 = 1.00\ntax 5001 1.00 = 0.19", (3, 2, 4)),
        ])

    def test_price_of_a_coin_without_digits(self):
        order = "order A1 coin JPY day 1\n"
        self.told(order + "line a 1 at 1000000 rate 0\nend", RIGHT)
        self.told(order + "line a 1 at 1000001 rate 0", (2, 5, 4))

    def test_amounts_above_the_most(self):
        line = "line 1 1 = 1.05\n"
        self.all_told([
            (INVOICE + "line 1 1 = 10000000000.00", (2, 5, 6)),
            (INVOICE + "line 1 1 = 10000000000.01", (2, 5, 4)),
            (INVOICE + "line 1 1 = 9999999999999.99", (2, 5, 4)),
            (INVOICE + line + "tax 1900 10000000000.00 = 0.20", (3, 3, 6)),
            (INVOICE + line + "tax 1900 10000000000.01 = 0.20", (3, 3, 4)),
            (INVOICE + line + "tax 1900 1.05 = 10000000000.00", (3, 5, 6)),
            (INVOICE + line + "tax 1900 1.05 = 10000000000.01", (3, 5, 4)),
            (INVOICE + line + "tax 1900 1.05 = 0.20\ntotal 10000000000.00", (4, 2, 6)),
            (INVOICE + line + "tax 1900 1.05 = 0.20\ntotal 10000000000.01", (4, 2, 4)),
        ])

    def test_discount(self):
        line = "line 1 2 = 2.10\nline 3 1 = 0.00\n"
        self.all_told([
            (INVOICE + line + "less 0.00", (4, 2, 4)),
            (INVOICE + line + "less 0.01\ntax 700 0.00 = 0.00\ntax 1900 2.09 = 0.40\ntotal 2.49\nend", RIGHT),
            (INVOICE + line + "less 2.10\ntax 700 0.00 = 0.00\ntax 1900 0.00 = 0.00\ntotal 0.00\nend", RIGHT),
            (INVOICE + line + "less 2.11", (4, 2, 4)),
            (INVOICE + line + "less 9999999999999.99", (4, 2, 4)),
            (INVOICE + "line 3 1 = 0.00\nless 0.00", (3, 2, 4)),
            (INVOICE + "line 3 1 = 0.00\nless 0.01", (3, 2, 4)),
        ])

    def test_days(self):
        self.all_told([
            ("delivery A1 coin EUR day 9 refers O1", (1, 8, 4)),
            ("delivery A1 coin EUR day 10 refers O1\nline 1 1\nend", RIGHT),
            ("invoice A1 coin EUR day 11 refers D1", (1, 8, 4)),
            ("credit A1 coin EUR day 13 refers I1", (1, 8, 4)),
            ("credit A1 coin EUR day 14 refers I1\nline 3 1 = 0.00\ntax 700 0.00 = 0.00\ntotal 0.00\nend", RIGHT),
        ])


class Why5(Places):
    def test_coins(self):
        two = "money USD 2\nmoney CHF 2\n"
        self.all_told([
            (two, RIGHT),
            (two + "money GBP 2", (3, 1, 5)),
            (two + "money EUR 2", (3, 1, 5)),
            (two + "money", (3, 1, 5)),
            (two + "\n  money x y z", (4, 1, 5)),
        ])

    def test_documents(self):
        # 5 are filed
        more = "".join(f"order A{k} coin EUR day 1\nline a 1 at 1.00 rate 0\nend\n" for k in range(35))
        self.all_told([
            (more, RIGHT),
            (more + "order B1 coin EUR day 1\nline a 1 at 1.00 rate 0\nend\n", (106, 1, 5)),
            (more + "order", (106, 1, 5)),
            (more + "delivery A1 x", (106, 1, 5)),
            (more + "invoice", (106, 1, 5)),
            (more + "credit 1", (106, 1, 5)),
            (more + "orders", (106, 1, 1)),
            (more + "money USD 2", RIGHT),
        ])

    def test_lines_of_an_order(self):
        eight = ORDER + "".join(f"line a{k} 1 at 1.00 rate 0\n" for k in range(8))
        self.all_told([
            (eight + "end", RIGHT),
            (eight + "line b 1 at 1.00 rate 0\nend", (10, 1, 5)),
            (eight + "line a1 1 at 1.00 rate 0\nend", (10, 1, 5)),
            (eight + "line", (10, 1, 5)),
            (eight + "lines", (10, 1, 1)),
        ])


class Why6(Places):
    def test_amounts(self):
        line = "line 1 2 = 2.10\n"
        tax = "tax 1900 2.10 = 0.40\n"
        self.all_told([
            (INVOICE + "line 1 2 = 2.11", (2, 5, 6)),
            (INVOICE + "line 1 2 = 0.00", (2, 5, 6)),
            (INVOICE + line + "tax 1901 2.10 = 0.40", (3, 2, 6)),
            (INVOICE + line + "tax 700 2.10 = 0.40", (3, 2, 6)),
            (INVOICE + line + "tax 0 2.10 = 0.40", (3, 2, 6)),
            (INVOICE + line + "tax 5000 2.10 = 0.40", (3, 2, 6)),
            (INVOICE + line + "tax 1900 2.09 = 0.40", (3, 3, 6)),
            (INVOICE + line + "tax 1900 2.10 = 0.39", (3, 5, 6)),
            (INVOICE + line + tax + "total 2.49", (4, 2, 6)),
            (INVOICE + line + tax + "total 2.50\nend", RIGHT),
            (INVOICE + line + "line 3 1 = 0.00\ntax 1900 2.10 = 0.40", (4, 2, 6)),
            (CREDIT + "line 1 1 = 0.99", (2, 5, 6)),
            (CREDIT + "line 1 1 = 1.05", (2, 5, 6)),
            (CREDIT + "line 1 1 = 1.00\ntax 700 1.00 = 0.19", (3, 2, 6)),
            (CREDIT + "line 1 1 = 1.00\ntax 5000 1.00 = 0.19", (3, 2, 6)),
            (CREDIT + "line 1 1 = 1.00\ntax 1900 1.01 = 0.19", (3, 3, 6)),
            (CREDIT + "line 1 1 = 1.00\ntax 1900 1.00 = 0.20", (3, 5, 6)),
            (CREDIT + "line 1 1 = 1.00\ntax 1900 1.00 = 0.19\ntotal 1.20", (4, 2, 6)),
            (CREDIT + "line 1 1 = 1.00\ntax 1900 1.00 = 0.19\ntotal 1.19\nend", RIGHT),
        ])

    def test_another_coin(self):
        self.all_told([
            ("delivery A1 coin JPY day 12 refers O1", (1, 8, 6)),
            ("invoice A1 coin JPY day 14 refers D1", (1, 8, 6)),
            ("credit A1 coin JPY day 16 refers I1", (1, 8, 6)),
        ])


class Why7(Places):
    def test_more_than_is_open(self):
        self.all_told([
            (DELIVERY + "line 1 4\nend", RIGHT),
            (DELIVERY + "line 1 5", (2, 3, 7)),
            (DELIVERY + "line 1 10000", (2, 3, 7)),
            (DELIVERY + "line 3 1", (2, 3, 7)),
            (INVOICE + "line 1 2 = 2.10\ntax 1900 2.10 = 0.40\ntotal 2.50\nend", RIGHT),
            (INVOICE + "line 1 3 = 3.15", (2, 3, 7)),
            (CREDIT + "line 1 4 = 2.99", (2, 3, 7)),
            (CREDIT + "line 3 3 = 0.00", (2, 3, 7)),
        ])

    def test_documents_of_the_same_text_count(self):
        self.told(DELIVERY + "line 1 3\nend\ndelivery A2 coin EUR day 12 refers O1\nline 1 2", (5, 3, 7))


class WhichComesFirst(Places):
    def test_the_first_word(self):
        self.all_told([
            ("money eur 5", (1, 2, 1)),
            ("money USD 5 x", (1, 3, 4)),
            ("order O1 coin XXX day x", (1, 2, 2)),
            (DELIVERY + "line 4 0", (2, 2, 3)),
            (INVOICE + "line 1 1 = 1.04 x", (2, 5, 6)),
            ("money USD 5\nx", (1, 3, 4)),
        ])

    def test_1_ahead_of_all(self):
        self.all_told([
            ("order O1x coin EUR day 1", (1, 2, 1)),
            (INVOICE + "line 1 1 = 99999999999999.00", (2, 5, 1)),
            (DELIVERY + "line 1 1\nline 01 1", (3, 2, 1)),
            (DELIVERY + "line 1 1234567890", (2, 3, 1)),
        ])

    def test_4_ahead_of_2_3_7_6(self):
        self.all_told([
            (DELIVERY + "line 1 1\nline 0 1", (3, 2, 4)),
            (DELIVERY + "line 9 1", (2, 2, 4)),
            (DELIVERY + "line 1 10001", (2, 3, 4)),
            (INVOICE + "line 1 1 = 10000000000.01", (2, 5, 4)),
        ])

    def test_2_ahead_of_3(self):
        self.told("invoice A1 coin EUR day 14 refers D1\nline 3 1 = 0.00\nline 2 1 = 0.33", (3, 2, 2))

    def test_7_ahead_of_the_amount(self):
        self.told(INVOICE + "line 1 3 = 0.00", (2, 3, 7))

    def test_the_name_behind_refers(self):
        self.all_told([
            ("delivery A1 coin JPY day 0 refers o1", (1, 8, 1)),
            ("delivery A1 coin JPY day 0 refers O9", (1, 8, 3)),
            ("delivery A1 coin JPY day 0 refers D1", (1, 8, 3)),
            ("delivery A1 coin JPY day 0 refers O1", (1, 8, 6)),
            ("delivery A1 coin EUR day 0 refers O1", (1, 8, 4)),
            ("delivery A1 coin JPY day 100001 refers O9", (1, 6, 4)),
            ("delivery A1 coin EUR day 0 refers O1 x", (1, 8, 4)),
        ])


if __name__ == "__main__":
    unittest.main()
