"""The calls 9 to 11: taxes shared down to the lines, what is left of an invoice, and the sums of a coin."""

import unittest
from random import Random

from tests.helper import (
    LEAST,
    MOST,
    STORY,
    Invoice,
    ask,
    ask_behind,
    ask_last,
    further_questions,
    of_story,
    questions,
    spread,
)
from tests.test_amounts import credit, invoice, order, random_invoice, random_parts


def behind(texts, *call):
    return ask_last(*[("read", text) for text in texts], call)


class Spread(unittest.TestCase):
    def told(self, row, n, *texts):
        self.assertEqual(behind(texts, "spread", n), [0] + row)

    def test_story(self):
        self.assertEqual(of_story("spread", 4), [0, 399, 76, 475, 0, 0, 0])
        self.assertEqual(of_story("spread", 6), [0, 100, 19, 119])
        self.assertEqual(of_story("spread", 7), [0, 210, 40, 250])
        self.assertEqual(of_story("spread", 8), [0, 199, 38, 237, 0, 0, 0])

    def test_refusals(self):
        for n in (0, -1, 41, LEAST, MOST):
            self.assertEqual(of_story("spread", n), [-1])
        for n in (9, 40):
            self.assertEqual(of_story("spread", n), [-3])
        for n in (1, 2, 3, 5):
            self.assertEqual(of_story("spread", n), [-4])
        self.assertEqual(ask(("spread", 1), ("spread", 0)), [[-3], [-1]])

    def test_equal_remainders(self):
        # 2 shared by 5, 5, 5
        self.told([5, 1, 6, 5, 1, 6, 5, 0, 5], 3, order(*[(1, 5, 1000)] * 3), invoice(
            "line 1 1 = 5", "line 2 1 = 5", "line 3 1 = 5", "tax 1000 15 = 2", "total 17"))

    def test_the_greatest_remainder_first(self):
        # 7 shared by 10, 30, 60: 0.7, 2.1, 4.2
        self.told([10, 1, 11, 30, 2, 32, 60, 4, 64], 3, order((1, 10, 700), (1, 30, 700), (1, 60, 700)), invoice(
            "line 1 1 = 10", "line 2 1 = 30", "line 3 1 = 60", "tax 700 100 = 7", "total 107"))
        # 4 shared by 30, 10, 60: 1.2, 0.4, 2.4, of the equal remainders the earlier
        self.told([30, 1, 31, 10, 1, 11, 60, 2, 62], 3, order((1, 30, 400), (1, 10, 400), (1, 60, 400)), invoice(
            "line 1 1 = 30", "line 2 1 = 10", "line 3 1 = 60", "tax 400 100 = 4", "total 104"))

    def test_several_rates(self):
        # 5 shared by 10, 30, 60: 0.5, 1.5, 3; the other rates' lines stand between
        lines = ("line 1 1 = 10", "line 2 1 = 7", "line 3 1 = 30", "line 4 1 = 60", "line 5 1 = 11")
        self.told([10, 1, 11, 7, 0, 7, 30, 1, 31, 60, 3, 63, 11, 2, 13], 3,
                  order((1, 10, 500), (1, 7, 0), (1, 30, 500), (1, 60, 500), (1, 11, 1900)),
                  invoice(*lines, "tax 0 7 = 0", "tax 500 100 = 5", "tax 1900 11 = 2", "total 125"))

    def test_by_nets_not_by_amounts(self):
        # of the amounts 1 and 1 the discount of 1 leaves 0 and 1
        self.told([0, 0, 0, 1, 1, 2], 3, order((1, 1, 5000), (1, 1, 5000)),
                  invoice("line 1 1 = 1", "line 2 1 = 1", "less 1", "tax 5000 1 = 1", "total 2"))

    def test_a_net_of_0_has_no_share(self):
        self.told([0, 0, 0, 3, 2, 5, 0, 0, 0, 3, 1, 4], 3,
                  order((1, 0, 5000), (1, 3, 5000), (2, 0, 5000), (1, 3, 5000)),
                  invoice("line 1 1 = 0", "line 2 1 = 3", "line 3 2 = 0", "line 4 1 = 3", "tax 5000 6 = 3", "total 9"))

    def test_all_nets_0(self):
        self.told([0, 0, 0, 0, 0, 0], 3, order((1, 4, 5000), (1, 4, 5000)),
                  invoice("line 1 1 = 4", "line 2 1 = 4", "less 8", "tax 5000 0 = 0", "total 0"))
        self.told([0, 0, 0, 4, 1, 5], 3, order((1, 0, 5000), (1, 4, 2500)),
                  invoice("line 1 1 = 0", "line 2 1 = 4", "tax 2500 4 = 1", "tax 5000 0 = 0", "total 5"))

    def test_credit_notes(self):
        texts = [order((2, 5, 1000), (2, 5, 1000)),
                 invoice("line 1 2 = 10", "line 2 2 = 10", "tax 1000 20 = 2", "total 22"),
                 credit("C1", "line 1 1 = 5", "line 2 1 = 5", "tax 1000 10 = 1", "total 11"),
                 credit("C2", "line 2 1 = 5", "tax 1000 5 = 1", "total 6"),
                 credit("C3", "line 1 1 = 5", "tax 1000 5 = 0", "total 5")]
        for n, row in ((3, [10, 1, 11, 10, 1, 11]), (4, [5, 1, 6, 5, 0, 5]), (5, [5, 1, 6]), (6, [5, 0, 5])):
            self.told(row, n, *texts)

    def test_random(self):
        random = Random(41)
        for turn in range(120):
            told = random_invoice(random)
            rates = [line[2] for line in told.order]
            texts = [told.order_text(), told.invoice_text()]
            due = [spread(told.nets, rates, told.taxes)]
            for k, part in enumerate(random_parts(random, [line[0] for line in told.order])):
                lines, taxes, total = told.credit(part)
                texts.append(told.credit_text(k, (lines, taxes, total)))
                of_lines = [told.order[number - 1][2] for number, quantity, amount in lines]
                due.append(spread([amount for number, quantity, amount in lines], of_lines, taxes))
                self.assertEqual(sum(due[-1][2::3]), total)
            asked = [("spread", n) for n in range(3, 3 + len(due))]
            self.assertEqual(ask_behind(texts, asked), [[0] + row for row in due])
            self.assertEqual(sum(due[0][2::3]), told.total)


class Left(unittest.TestCase):
    def test_story(self):
        self.assertEqual(of_story("left", 4), [0, 475 - 119 - 237])
        self.assertEqual(of_story("left", 7), [0, 250])

    def test_refusals(self):
        for n in (0, -1, 41, LEAST, MOST):
            self.assertEqual(of_story("left", n), [-1])
        for n in (9, 40):
            self.assertEqual(of_story("left", n), [-3])
        for n in (1, 2, 3, 5, 6, 8):
            self.assertEqual(of_story("left", n), [-4])
        self.assertEqual(ask(("left", 1), ("left", 0)), [[-3], [-1]])

    def test_before_between_and_behind_the_credit_notes(self):
        reads = [("read", order((3, 4, 1500))),
                 ("read", invoice("line 1 3 = 12", "less 2", "tax 1500 10 = 2", "total 12")),
                 ("read", credit("C1", "line 1 1 = 3", "tax 1500 3 = 0", "total 3")),
                 ("read", credit("C2", "line 1 1 = 4", "tax 1500 4 = 1", "total 5")),
                 ("read", credit("C3", "line 1 1 = 3", "tax 1500 3 = 1", "total 4"))]
        calls = [call for read in reads for call in (read, ("left", 3))]
        self.assertEqual(ask(*calls)[1::2], [[-3], [0, 12], [0, 9], [0, 4], [0, 0]])

    def test_credit_notes_of_another_invoice_do_not_count(self):
        texts = [order((2, 5, 1000)), invoice("line 1 1 = 5", "tax 1000 5 = 1", "total 6"),
                 "invoice I2 coin EUR day 0 refers D1\nline 1 1 = 5\ntax 1000 5 = 1\ntotal 6\nend\n",
                 "credit C2 coin EUR day 0 refers I2\nline 1 1 = 5\ntax 1000 5 = 1\ntotal 6\nend\n"]
        self.assertEqual(ask_behind(texts, [("left", 3), ("left", 4)]), [[0, 6], [0, 0]])

    def test_random(self):
        random = Random(43)
        for turn in range(60):
            told = random_invoice(random)
            calls = [("read", told.order_text()), ("read", told.invoice_text()), ("left", 3)]
            due = [told.total]
            for k, part in enumerate(random_parts(random, [line[0] for line in told.order])):
                further = told.credit(part)
                calls += [("read", told.credit_text(k, further)), ("left", 3)]
                due.append(due[-1] - further[2])
            self.assertEqual(ask(*calls)[2::2], [[0, left] for left in due])
            self.assertEqual(due[-1], 0)


COINS = """money EUR 2
money JPY 0
money USD 1
order O1 coin EUR day 0
line a 9 at 1.00 rate 1900
line b 9 at 0.50 rate 900
end
order O2 coin JPY day 0
line a 9 at 10 rate 1900
line b 9 at 7 rate 1000
line c 9 at 3 rate 0
end
delivery D1 coin EUR day 0 refers O1
line 1 9
line 2 9
end
delivery D2 coin JPY day 0 refers O2
line 1 9
line 2 9
line 3 9
end
invoice I1 coin EUR day 0 refers D1
line 1 1 = 1.00
tax 1900 1.00 = 0.19
total 1.19
end
invoice I2 coin JPY day 0 refers D2
line 1 1 = 10
line 2 2 = 14
line 3 1 = 3
less 2
tax 0 3 = 0
tax 1000 13 = 1
tax 1900 9 = 2
total 28
end
"""
MORE = """invoice I3 coin EUR day 0 refers D1
line 1 2 = 2.00
line 2 3 = 1.50
tax 900 1.50 = 0.14
tax 1900 2.00 = 0.38
total 4.02
end
"""
CREDITED = """credit C1 coin EUR day 0 refers I3
line 2 3 = 1.50
tax 900 1.50 = 0.14
total 1.64
end
credit C2 coin JPY day 0 refers I2
line 1 1 = 9
line 2 1 = 7
tax 1000 7 = 1
tax 1900 9 = 2
total 19
end
credit C3 coin EUR day 0 refers I1
line 1 1 = 1.00
tax 1900 1.00 = 0.19
total 1.19
end
"""


class Sums(unittest.TestCase):
    def sums(self, *texts):
        return [answer for answer in ask_behind(texts, [("sums", coin) for coin in (1, 2, 3)])]

    def test_story(self):
        self.assertEqual(of_story("sums", 1), [0, 700, 0, 0, 1900, 310, 59])
        self.assertEqual(of_story("sums", 2), [0])

    def test_refusals(self):
        for coin in (0, -1, 5, 40, LEAST, MOST):
            self.assertEqual(of_story("sums", coin), [-1])
            self.assertEqual(ask_last(("sums", coin)), [-1])
        for coin in (3, 4):
            self.assertEqual(of_story("sums", coin), [-3])
        self.assertEqual(ask(("sums", 1), ("sums", 4)), [[-3], [-3]])

    def test_a_coin_beyond_the_documents(self):
        given = ask(("read", "money EUR 2\nmoney JPY 0\nmoney USD 1\nmoney CHF 4"), *[("sums", k) for k in range(1, 6)])
        self.assertEqual(given[1:], [[0], [0], [0], [0], [-1]])

    def test_several_coins_and_rates(self):
        self.assertEqual(self.sums(COINS), [[0, 1900, 100, 19], [0, 0, 3, 0, 1000, 13, 1, 1900, 9, 2], [0]])

    def test_several_invoices_the_least_rate_first(self):
        given = self.sums(COINS, MORE)
        self.assertEqual(given, [[0, 900, 150, 14, 1900, 300, 57], [0, 0, 3, 0, 1000, 13, 1, 1900, 9, 2], [0]])

    def test_credit_notes(self):
        given = self.sums(COINS, MORE, CREDITED)
        # the rates 900 of EUR and 1900 of JPY are all credited
        self.assertEqual(given, [[0, 900, 0, 0, 1900, 200, 38], [0, 0, 3, 0, 1000, 6, 0, 1900, 0, 0], [0]])

    def test_orders_and_deliveries_do_not_count(self):
        self.assertEqual(ask_last(("read", order((3, 4, 1500))), ("sums", 1)), [0])

    def test_all_is_credited_in_the_end(self):
        random = Random(47)
        for turn in range(40):
            told = random_invoice(random)
            texts = [told.order_text(), told.invoice_text()]
            due = {rate: [base, tax] for rate, base, tax in told.taxes}
            calls = [("read", text) for text in texts] + [("sums", 1)]
            rows = [[number for rate in sorted(due) for number in [rate] + due[rate]]]
            for k, part in enumerate(random_parts(random, [line[0] for line in told.order])):
                further = told.credit(part)
                for rate, base, tax in further[1]:
                    due[rate] = [due[rate][0] - base, due[rate][1] - tax]
                calls += [("read", told.credit_text(k, further)), ("sums", 1)]
                rows.append([number for rate in sorted(due) for number in [rate] + due[rate]])
            self.assertEqual(ask(*calls)[2::2], [[0] + row for row in rows])
            self.assertEqual(rows[-1], [number for rate in told.rates for number in (rate, 0, 0)])


class NothingChanges(unittest.TestCase):
    def test_with_answers_and_refusals(self):
        asked = [(name, n) for name in ("spread", "left", "sums") for n in (0, 1, 3, 4, 9)]
        for calls in (questions(5), further_questions(8)[:35]):
            given = ask(("read", STORY), *asked, *calls)
            self.assertEqual(given[1 + len(asked):], ask(("read", STORY), *calls)[1:])


class SecondReckoning(unittest.TestCase):
    def test_it_reckons_the_example(self):
        told = Invoice([(4, 105, 1900), (2, 0, 700)], 21, 2)
        self.assertEqual(told.nets, [399, 0])
        self.assertEqual(told.taxes, [(700, 0, 0), (1900, 399, 76)])
        self.assertEqual(spread(told.nets, [1900, 700], told.taxes), [399, 76, 475, 0, 0, 0])


if __name__ == "__main__":
    unittest.main()
