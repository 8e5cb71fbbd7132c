"""An invoice's and a credit note's amounts: rounding, discounts, rates, and crediting bit by bit."""

import unittest
from random import Random

from tests.helper import Invoice, ask, wrong_place


def order(*lines):
    rows = ["money EUR 0", "order O1 coin EUR day 0"]
    rows += [f"line i{k} {quantity} at {price} rate {rate}" for k, (quantity, price, rate) in enumerate(lines)]
    rows += ["end", "delivery D1 coin EUR day 0 refers O1"]
    rows += [f"line {k} {line[0]}" for k, line in enumerate(lines, start=1)]
    return "\n".join(rows + ["end", ""])


def invoice(*rows):
    return "\n".join(("invoice I1 coin EUR day 0 refers D1",) + rows + ("end", ""))


def credit(name, *rows):
    return "\n".join((f"credit {name} coin EUR day 0 refers I1",) + rows + ("end", ""))


class Amounts(unittest.TestCase):
    def right(self, *texts):
        written = "".join(texts)
        self.assertEqual(wrong_place(written), (0, 0, 0), written)

    def wrong(self, place, *texts):
        """The place's line is counted in the last text."""
        self.assertEqual(wrong_place(texts[-1], "".join(texts[:-1])), place, texts[-1])


class Invoices(Amounts):
    def test_tax_of_a_half_goes_up(self):
        ordered = order((1, 10, 500))
        self.right(ordered, invoice("line 1 1 = 10", "tax 500 10 = 1", "total 11"))
        self.wrong((3, 5, 6), ordered, invoice("line 1 1 = 10", "tax 500 10 = 0", "total 10"))

    def test_tax_below_a_half_goes_down(self):
        self.right(order((1, 10, 499)), invoice("line 1 1 = 10", "tax 499 10 = 0", "total 10"))

    def test_tax_of_the_base_not_line_by_line(self):
        # each line's tax by itself would be nearest 0.5, so 1 each
        self.right(order((1, 5, 1000), (1, 5, 1000)),
                   invoice("line 1 1 = 5", "line 2 1 = 5", "tax 1000 10 = 1", "total 11"))

    def test_several_rates_the_least_first(self):
        ordered = order((1, 100, 1900), (2, 50, 0), (1, 100, 700), (1, 10, 1900))
        lines = ("line 1 1 = 100", "line 2 2 = 100", "line 3 1 = 100", "line 4 1 = 10")
        self.right(ordered, invoice(*lines, "tax 0 100 = 0", "tax 700 100 = 7", "tax 1900 110 = 21", "total 338"))
        self.wrong((6, 2, 6), ordered, invoice(*lines, "tax 1900 110 = 21", "tax 700 100 = 7", "tax 0 100 = 0"))
        self.wrong((7, 2, 6), ordered, invoice(*lines, "tax 0 100 = 0", "tax 1900 110 = 21"))
        self.wrong((8, 1, 1), ordered, invoice(*lines, "tax 0 100 = 0", "tax 700 100 = 7", "total 207"))

    def test_rates_rise_as_numbers(self):
        self.right(order((1, 100, 1000), (1, 100, 900)),
                   invoice("line 1 1 = 100", "line 2 1 = 100", "tax 900 100 = 9", "tax 1000 100 = 10", "total 219"))

    def test_only_the_rates_of_its_own_lines(self):
        self.right(order((1, 100, 1900), (2, 50, 0)), invoice("line 1 1 = 100", "tax 1900 100 = 19", "total 119"))

    def test_a_rate_of_0_has_its_tax_line(self):
        ordered = order((1, 100, 0))
        self.right(ordered, invoice("line 1 1 = 100", "tax 0 100 = 0", "total 100"))
        self.wrong((3, 1, 1), ordered, invoice("line 1 1 = 100", "total 100"))

    def test_discount_shared_with_equal_remainders(self):
        # 2 shared by 5, 5, 5: 1, 1, 0
        ordered = order((1, 5, 0), (1, 5, 1), (1, 5, 2))
        lines = ("line 1 1 = 5", "line 2 1 = 5", "line 3 1 = 5", "less 2")
        self.right(ordered, invoice(*lines, "tax 0 4 = 0", "tax 1 4 = 0", "tax 2 5 = 0", "total 13"))
        self.wrong((6, 3, 6), ordered, invoice(*lines, "tax 0 5 = 0"))

    def test_discount_to_the_greatest_remainder(self):
        # 7 shared by 10, 30, 60: 0.7, 2.1, 4.2
        self.right(order((1, 10, 0), (1, 30, 1), (1, 60, 2)),
                   invoice("line 1 1 = 10", "line 2 1 = 30", "line 3 1 = 60", "less 7",
                           "tax 0 9 = 0", "tax 1 28 = 0", "tax 2 56 = 0", "total 93"))

    def test_discount_of_one_unit_and_of_all(self):
        ordered = order((1, 3, 0), (1, 4, 5000))
        lines = ("line 1 1 = 3", "line 2 1 = 4")
        self.right(ordered, invoice(*lines, "less 1", "tax 0 3 = 0", "tax 5000 3 = 2", "total 8"))
        self.right(ordered, invoice(*lines, "less 7", "tax 0 0 = 0", "tax 5000 0 = 0", "total 0"))
        self.wrong((4, 2, 4), ordered, invoice(*lines, "less 8"))
        self.wrong((4, 2, 4), ordered, invoice(*lines, "less 0"))

    def test_discount_beside_a_line_of_0(self):
        self.right(order((1, 0, 0), (1, 4, 5)),
                   invoice("line 1 1 = 0", "line 2 1 = 4", "less 3", "tax 0 0 = 0", "tax 5 1 = 0", "total 1"))

    def test_all_amounts_0(self):
        ordered = order((3, 0, 1900), (2, 0, 0))
        lines = ("line 1 3 = 0", "line 2 2 = 0")
        self.right(ordered, invoice(*lines, "tax 0 0 = 0", "tax 1900 0 = 0", "total 0"),
                   credit("C1", "line 1 2 = 0", "tax 1900 0 = 0", "total 0"),
                   credit("C2", "line 1 1 = 0", "line 2 2 = 0", "tax 0 0 = 0", "tax 1900 0 = 0", "total 0"))

    def test_the_greatest_amounts(self):
        lines = tuple(f"line {k} 10000 = 10000000000" for k in range(1, 9))
        self.right(order(*[(10000, 1000000, 5000)] * 8),
                   invoice(*lines, "tax 5000 80000000000 = 40000000000", "total 120000000000"))

    def test_part_of_a_delivery(self):
        self.right(order((7, 3, 0)), invoice("line 1 2 = 6", "tax 0 6 = 0", "total 6"),
                   "invoice I2 coin EUR day 0 refers D1\nline 1 5 = 15\ntax 0 15 = 0\ntotal 15\nend\n")


class CreditNotes(Amounts):
    # 3 pieces, the net 10 after a discount of 2; the tax of 10 at 15 percent is nearest 1.5
    INVOICED = order((3, 4, 1500)) + invoice("line 1 3 = 12", "less 2", "tax 1500 10 = 2", "total 12")

    def test_one_by_one(self):
        # nearest of 3.33, 6.67, 10; taxes nearest of 0.45, 1.05, 1.5
        first = credit("C1", "line 1 1 = 3", "tax 1500 3 = 0", "total 3")
        second = credit("C2", "line 1 1 = 4", "tax 1500 4 = 1", "total 5")
        third = credit("C3", "line 1 1 = 3", "tax 1500 3 = 1", "total 4")
        self.right(self.INVOICED, first, second, third)
        self.wrong((2, 5, 6), self.INVOICED, first, credit("C2", "line 1 1 = 3"))
        self.wrong((3, 5, 6), self.INVOICED, first, second, credit("C3", "line 1 1 = 3", "tax 1500 3 = 0"))
        self.wrong((2, 3, 7), self.INVOICED, first, second, third, credit("C4", "line 1 1 = 0"))

    def test_other_parts(self):
        self.right(self.INVOICED, credit("C1", "line 1 3 = 10", "tax 1500 10 = 2", "total 12"))
        self.right(self.INVOICED, credit("C1", "line 1 2 = 7", "tax 1500 7 = 1", "total 8"),
                   credit("C2", "line 1 1 = 3", "tax 1500 3 = 1", "total 4"))
        self.right(self.INVOICED, credit("C1", "line 1 1 = 3", "tax 1500 3 = 0", "total 3"),
                   credit("C2", "line 1 2 = 7", "tax 1500 7 = 2", "total 9"))

    def test_read_in_several_texts(self):
        given = ask(("read", self.INVOICED), ("read", credit("C1", "line 1 1 = 3", "tax 1500 3 = 0", "total 3")),
                    ("read", credit("C2", "line 1 2 = 7", "tax 1500 7 = 1", "total 8")),
                    ("read", credit("C2", "line 1 2 = 7", "tax 1500 7 = 2", "total 9")), ("open", 3))
        self.assertEqual(given, [[0, 3], [0, 4], [-5], [0, 5], [0, 1, 0]])

    def test_half_a_unit_for_a_piece(self):
        # 2 pieces, the net 1: nearest of 0.5 is 1, so the first piece carries it
        invoiced = order((2, 1, 0)) + invoice("line 1 2 = 2", "less 1", "tax 0 1 = 0", "total 1")
        self.right(invoiced, credit("C1", "line 1 1 = 1", "tax 0 1 = 0", "total 1"),
                   credit("C2", "line 1 1 = 0", "tax 0 0 = 0", "total 0"))

    def test_rates_by_themselves(self):
        invoiced = order((2, 5, 1000), (2, 5, 500)) + invoice(
            "line 1 2 = 10", "line 2 2 = 10", "tax 500 10 = 1", "tax 1000 10 = 1", "total 22")
        first = credit("C1", "line 1 1 = 5", "tax 1000 5 = 1", "total 6")
        self.right(invoiced, first,
                   credit("C2", "line 1 1 = 5", "line 2 1 = 5", "tax 500 5 = 0", "tax 1000 5 = 0", "total 10"),
                   credit("C3", "line 2 1 = 5", "tax 500 5 = 1", "total 6"))
        self.wrong((4, 2, 6), invoiced, first, credit("C2", "line 1 1 = 5", "line 2 1 = 5", "tax 1000 5 = 0"))

    def test_credit_notes_of_another_invoice_do_not_count(self):
        ordered = order((2, 5, 1000))
        self.right(ordered, invoice("line 1 1 = 5", "tax 1000 5 = 1", "total 6"),
                   "invoice I2 coin EUR day 0 refers D1\nline 1 1 = 5\ntax 1000 5 = 1\ntotal 6\nend\n",
                   credit("C1", "line 1 1 = 5", "tax 1000 5 = 1", "total 6"),
                   "credit C2 coin EUR day 0 refers I2\nline 1 1 = 5\ntax 1000 5 = 1\ntotal 6\nend\n")


def random_invoice(random):
    lines = random.randrange(1, 9)
    rates = [random.choice((0, 700, 1900, 5000, random.randrange(5001))) for k in range(random.randrange(1, 4))]
    most_price = random.choice((1, 10, 1000, 1000000))
    ordered = [(random.choice((1, 2, 3, 7, random.randrange(1, 10001))), random.randrange(most_price + 1),
                random.choice(rates)) for k in range(lines)]
    together = sum(quantity * price for quantity, price, rate in ordered)
    discount = random.choice((0, min(1, together), together, random.randrange(together + 1)))
    return Invoice(ordered, discount, random.randrange(5))


def random_parts(random, quantities):
    """Quantities for credit notes that together are all of it."""
    left = list(quantities)
    parts = []
    while any(left):
        part = [random.choice((0, random.randrange(q + 1), min(q, 1))) for q in left]
        if len(parts) == 6:
            part = list(left)
        if any(part):
            parts.append(part)
            left = [q - p for q, p in zip(left, part)]
    return parts


class BitByBit(unittest.TestCase):
    def credited_whole(self, told, parts):
        """Read the parts as credit notes, and compare what they are together with the invoice."""
        calls = [("read", told.order_text()), ("read", told.invoice_text())]
        calls += [("read", told.credit_text(k, told.credit(part))) for k, part in enumerate(parts)]
        documents = range(3, 4 + len(parts))
        calls += [("lines", n) for n in documents] + [("taxes", n) for n in documents]
        calls += [("doc", n) for n in documents] + [("open", 3)]
        given = ask(*calls)
        reads = given[:2 + len(parts)]
        self.assertEqual(reads, [[0, n] for n in range(2, 4 + len(parts))])
        count = len(documents)
        lines, taxes, docs = (given[len(reads) + k * count:len(reads) + (k + 1) * count] for k in range(3))
        self.assertEqual(together(lines[1:], 2), {k: net for k, net in enumerate(told.nets, start=1)})
        self.assertEqual(together(taxes[1:], 1), {rate: base for rate, base, tax in told.taxes})
        self.assertEqual(together(taxes[1:], 2), together(taxes[:1], 2))
        self.assertEqual(sum(doc[6] for doc in docs[1:]), docs[0][6])
        self.assertEqual(docs[0][6], told.total)
        self.assertEqual(given[-1][2::2], [0] * len(told.order))

    def test_random_invoices_in_random_parts(self):
        random = Random(7)
        for turn in range(150):
            told = random_invoice(random)
            self.credited_whole(told, random_parts(random, [line[0] for line in told.order]))

    def test_the_same_parts_in_different_orders(self):
        parts = [[1, 0, 2], [1, 3, 0], [0, 1, 1], [1, 3, 0]]
        for turn in range(len(parts)):
            told = Invoice([(3, 333, 1900), (7, 101, 700), (3, 7, 1900)], 512, 2)
            self.credited_whole(told, parts[turn:] + parts[:turn])


def together(answered, place):
    """Rows of three numbers, summed at this place by their first number."""
    sums = {}
    for answer in answered:
        for k in range(1, len(answer), 3):
            sums[answer[k]] = sums.get(answer[k], 0) + answer[k + place]
    return sums


if __name__ == "__main__":
    unittest.main()
