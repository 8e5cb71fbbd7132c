"""The calls 12 and 13: what an invoice or a credit note would say, and promise 4."""

import unittest
from copy import deepcopy
from random import Random

from tests.helper import (
    LEAST,
    MOST,
    STORY,
    Invoice,
    ask,
    ask_behind,
    draft_parts,
    further_questions,
    of_story,
    questions,
    wrong_place,
    written_amount,
)
from tests.test_amounts import credit, invoice, order, random_invoice, random_parts
from tests.test_promises import amount_places, changed, one_less, one_more

OUT_OF_A_QUANTITYS_RANGE = ((-1,), (10001,), (0, 0, -1), (1, 10001), (0,) * 9, (1,) * 9, (0,) * 3000, (LEAST,), (MOST,))
OUT_OF_A_DISCOUNTS_RANGE = (-1, 1000000000001, LEAST, MOST)
OUT_OF_A_DOCUMENTS_RANGE = (0, -1, 41, LEAST, MOST)


class Bill(unittest.TestCase):
    def refused(self, refusal, n, discount, quantities):
        self.assertEqual(of_story("bill", n, discount, quantities), [refusal], (n, discount, quantities))

    def test_story(self):
        self.assertEqual(of_story("bill", 5, 0, [0, 8]), [0, 282, 1, 2, 8, 264, 1, 700, 264, 18])
        self.assertEqual(of_story("bill", 5, 0, [0, 1]), [0, 35, 1, 2, 1, 33, 1, 700, 33, 2])
        self.assertEqual(of_story("bill", 5, 64, [0, 8]), [0, 214, 1, 2, 8, 264, 1, 700, 200, 14])
        self.assertEqual(of_story("bill", 2, 0, [0, 0, 3]), [0, 0, 1, 3, 3, 0, 1, 700, 0, 0])

    def test_several_lines_and_rates(self):
        texts = [order((3, 10, 1900), (4, 7, 0), (5, 30, 500), (2, 11, 1900))]
        self.assertEqual(ask_behind(texts, [("bill", 2, 0, (1, 0, 2, 2))]),
                         [[0, 101, 3, 1, 1, 10, 3, 2, 60, 4, 2, 22, 2, 500, 60, 3, 1900, 32, 6]])
        # 9 shared by 10, 28, 60: 0.9, 2.6, 5.5
        self.assertEqual(ask_behind(texts, [("bill", 2, 9, (1, 4, 2))]),
                         [[0, 94, 3, 1, 1, 10, 2, 4, 28, 3, 2, 60, 3, 0, 25, 0, 500, 55, 3, 1900, 9, 2]])

    def test_rows_of_0_to_8_quantities(self):
        texts = [order(*[(1, k, 0) for k in range(1, 9)])]
        self.assertEqual(ask_behind(texts, [("bill", 2, 0, ())]), [[-8]])
        for count in range(1, 9):
            lines = [number for k in range(1, count + 1) for number in (k, 1, k)]
            total = count * (count + 1) // 2
            answer = [0, total, count] + lines + [1, 0, total, 0]
            self.assertEqual(ask_behind(texts, [("bill", 2, 0, (1,) * count)]), [answer])
            last = (0,) * (count - 1) + (1,)
            answer = [0, count, 1, count, 1, count, 1, 0, count, 0]
            self.assertEqual(ask_behind(texts, [("bill", 2, 0, last)]), [answer])

    def test_zeros_for_lines_that_are_not_there(self):
        due = of_story("bill", 5, 0, (0, 3))
        for row in ((0, 3, 0), (0, 3, 0, 0), (0, 3, 0, 0, 0, 0, 0, 0)):
            self.assertEqual(of_story("bill", 5, 0, row), due)

    def test_out_of_range(self):
        for n in OUT_OF_A_DOCUMENTS_RANGE:
            self.refused(-1, n, 0, (0, 1))
        for discount in OUT_OF_A_DISCOUNTS_RANGE:
            self.refused(-1, 5, discount, (0, 1))
        for row in OUT_OF_A_QUANTITYS_RANGE:
            self.refused(-1, 5, 0, row)

    def test_the_ranges_edges(self):
        self.refused(-9, 5, 1000000000000, (0, 1))
        self.refused(-7, 5, 0, (0, 10000))
        texts = [order((10000, 1000000, 5000))]
        self.assertEqual(ask_behind(texts, [("bill", 2, 10000000000, (10000,)), ("bill", 2, 0, (10000,))]),
                         [[0, 0, 1, 1, 10000, 10000000000, 1, 5000, 0, 0],
                          [0, 15000000000, 1, 1, 10000, 10000000000, 1, 5000, 10000000000, 5000000000]])

    def test_not_there(self):
        for n in (9, 40):
            self.refused(-3, n, 0, (0, 1))
        self.assertEqual(ask(("bill", 1, 0, (1,))), [[-3]])

    def test_no_delivery(self):
        for n in (1, 3, 4, 6, 7, 8):
            self.refused(-4, n, 0, (1,))

    def test_more_than_is_open(self):
        for n, row in ((5, (0, 9)), (5, (1, 8)), (5, (0, 8, 1)), (5, (0, 8, 0, 0, 0, 0, 0, 1)), (2, (1,)), (2, (0, 1)),
                       (2, (0, 0, 4)), (2, (0, 0, 10000))):
            self.refused(-7, n, 0, row)

    def test_all_0(self):
        for n in (2, 5):
            for row in ((), (0,), (0, 0), (0,) * 8):
                self.refused(-8, n, 0, row)

    def test_discount_of_all_and_of_more(self):
        self.assertEqual(of_story("bill", 5, 264, (0, 8)), [0, 0, 1, 2, 8, 264, 1, 700, 0, 0])
        self.refused(-9, 5, 265, (0, 8))
        self.refused(-9, 5, 264, (0, 7))
        self.refused(-9, 2, 1, (0, 0, 3))

    def test_which_refusal_comes_first(self):
        for row in OUT_OF_A_QUANTITYS_RANGE:
            for n in (9, 4, 2):
                self.refused(-1, n, 1000000000000, row)
        for discount in OUT_OF_A_DISCOUNTS_RANGE:
            for n in (9, 4, 5):
                for row in ((), (0, 0), (9, 9)):
                    self.refused(-1, n, discount, row)
        for n in OUT_OF_A_DOCUMENTS_RANGE:
            self.refused(-1, n, 1000000000000, (9, 9))
        for row in ((), (0, 0), (9, 9)):
            self.refused(-3, 9, 1000000000000, row)
            self.refused(-4, 4, 1000000000000, row)
        self.refused(-7, 5, 1000000000000, (0, 9))
        self.refused(-7, 5, 1000000000000, (1,))
        self.refused(-8, 5, 1000000000000, (0,))
        self.refused(-8, 5, 1, ())

    def test_what_was_invoiced_is_not_open(self):
        reads = [order((5, 2, 0)), invoice("line 1 2 = 4", "tax 0 4 = 0", "total 4")]
        self.assertEqual(ask_behind(reads, [("bill", 2, 0, (3,)), ("bill", 2, 0, (4,))]),
                         [[0, 6, 1, 1, 3, 6, 1, 0, 6, 0], [-7]])
        # what is credited isn't open again
        reads.append(credit("C1", "line 1 2 = 4", "tax 0 4 = 0", "total 4"))
        self.assertEqual(ask_behind(reads, [("bill", 2, 0, (4,))]), [[-7]])


class Note(unittest.TestCase):
    def refused(self, refusal, n, quantities):
        self.assertEqual(of_story("note", n, quantities), [refusal], (n, quantities))

    def test_story(self):
        self.assertEqual(of_story("note", 4, (1,)), [0, 119, 1, 1, 1, 100, 1, 1900, 100, 19])
        self.assertEqual(of_story("note", 7, (1,)), [0, 125, 1, 1, 1, 105, 1, 1900, 105, 20])
        self.assertEqual(of_story("note", 7, (2,)), [0, 250, 1, 1, 2, 210, 1, 1900, 210, 40])

    def test_before_between_and_behind_the_credit_notes(self):
        texts = [order((3, 4, 1500)), invoice("line 1 3 = 12", "less 2", "tax 1500 10 = 2", "total 12")]
        self.assertEqual(ask_behind(texts, [("note", 3, (1,)), ("note", 3, (2,)), ("note", 3, (3,))]),
                         [[0, 3, 1, 1, 1, 3, 1, 1500, 3, 0], [0, 8, 1, 1, 2, 7, 1, 1500, 7, 1],
                          [0, 12, 1, 1, 3, 10, 1, 1500, 10, 2]])
        texts.append(credit("C1", "line 1 1 = 3", "tax 1500 3 = 0", "total 3"))
        self.assertEqual(ask_behind(texts, [("note", 3, (1,)), ("note", 3, (2,)), ("note", 3, (3,))]),
                         [[0, 5, 1, 1, 1, 4, 1, 1500, 4, 1], [0, 9, 1, 1, 2, 7, 1, 1500, 7, 2], [-7]])
        texts.append(credit("C2", "line 1 2 = 7", "tax 1500 7 = 2", "total 9"))
        self.assertEqual(ask_behind(texts, [("note", 3, (1,)), ("note", 3, (0,)), ("note", 3, ())]), [[-7], [-8], [-8]])

    def test_several_lines_and_rates(self):
        texts = [order((2, 5, 1000), (2, 5, 500), (4, 0, 500)),
                 invoice("line 1 2 = 10", "line 2 2 = 10", "line 3 4 = 0",
                         "tax 500 10 = 1", "tax 1000 10 = 1", "total 22"),
                 credit("C1", "line 1 1 = 5", "tax 1000 5 = 1", "total 6")]
        self.assertEqual(ask_behind(texts, [("note", 3, (1, 1, 0)), ("note", 3, (0, 2, 3)), ("note", 3, (0, 0, 4))]),
                         [[0, 10, 2, 1, 1, 5, 2, 1, 5, 2, 500, 5, 0, 1000, 5, 0],
                          [0, 11, 2, 2, 2, 10, 3, 3, 0, 1, 500, 10, 1],
                          [0, 0, 1, 3, 4, 0, 1, 500, 0, 0]])

    def test_zeros_for_lines_that_are_not_there(self):
        due = of_story("note", 7, (1,))
        for row in ((1, 0), (1, 0, 0), (1, 0, 0, 0, 0, 0, 0, 0)):
            self.assertEqual(of_story("note", 7, row), due)

    def test_out_of_range(self):
        for n in OUT_OF_A_DOCUMENTS_RANGE:
            self.refused(-1, n, (1,))
        for row in OUT_OF_A_QUANTITYS_RANGE:
            for n in (4, 2, 9):
                self.refused(-1, n, row)

    def test_not_there(self):
        for n in (9, 40):
            for row in ((1,), (), (9,)):
                self.refused(-3, n, row)
        self.assertEqual(ask(("note", 1, (1,))), [[-3]])

    def test_no_invoice(self):
        for n in (1, 2, 3, 5, 6, 8):
            for row in ((1,), (), (9,)):
                self.refused(-4, n, row)

    def test_more_than_is_open(self):
        for n, row in ((4, (2,)), (4, (1, 1)), (4, (1, 0, 1)), (4, (0, 0, 0, 0, 0, 0, 0, 1)), (7, (3,)), (7, (0, 1)),
                       (7, (0, 0, 1)), (7, (10000,))):
            self.refused(-7, n, row)

    def test_all_0(self):
        for n in (4, 7):
            for row in ((), (0,), (0, 0, 0), (0,) * 8):
                self.refused(-8, n, row)


class NothingChanges(unittest.TestCase):
    def test_with_answers_and_refusals(self):
        asked = [("bill", 5, 0, (0, 8)), ("bill", 5, 265, (0, 8)), ("bill", 5, 0, (0, 9)), ("bill", 9, 0, ()),
                 ("bill", 4, 0, (1,)), ("bill", 5, -1, (1,)), ("bill", 5, 0, ()), ("note", 4, (1,)), ("note", 4, (2,)),
                 ("note", 5, (1,)), ("note", 41, (1,)), ("note", 4, (0,)), ("note", 7, (2,)), ("note", 7, (2,))]
        for calls in (questions(7), further_questions(8)[:40], further_questions(8)[60:100]):
            given = ask(("read", STORY), *asked, *calls)
            self.assertEqual(given[1 + len(asked):], ask(("read", STORY), *calls)[1:])


def shortened(random, row):
    """The row with some of the zeros at its end left out, or with some more."""
    used = max(k for k, quantity in enumerate(row, start=1) if quantity)
    length = random.randrange(used, 9)
    return (list(row) + [0] * 8)[:length]


def random_part(random, quantities):
    """Quantities up to these, not all 0."""
    while True:
        part = [random.choice((0, quantity, random.randrange(quantity + 1))) for quantity in quantities]
        if any(part):
            return part


class Delivered:
    """An order of which a part is delivered, with what is open of the delivery."""

    def __init__(self, random):
        told = random_invoice(random)
        self.digits = told.digits
        self.order = told.order
        self.part = random_part(random, [line[0] for line in told.order])
        self.left = list(self.part)
        rows = told.order_text().split("\n")
        heading = [k for k, row in enumerate(rows) if row.startswith("delivery")][0]
        lines = [f"line {k} {quantity}" for k, quantity in enumerate(self.part, start=1) if quantity]
        self.text = "\n".join(rows[:heading + 1] + lines + ["end", ""])

    def bill(self, random):
        """Quantities of it and the invoice that they make."""
        part = random_part(random, self.left)
        numbers = [k for k, quantity in enumerate(part, start=1) if quantity]
        lines = [(part[k - 1],) + self.order[k - 1][1:] for k in numbers]
        together = sum(quantity * price for quantity, price, rate in lines)
        discount = random.choice((0, together, random.randrange(together + 1)))
        self.left = [before - quantity for before, quantity in zip(self.left, part)]
        return part, Invoice(lines, discount, self.digits, numbers)


class ToldAsATextItIsTaken(unittest.TestCase):
    """Promise 4."""

    def taken_with_just_these_amounts(self, before, heading, closing):
        """The text is right, and with any of its amounts one more or less it's wrong at that place."""
        written = heading + closing
        self.assertEqual(wrong_place(written, before), (0, 0, 0), written)
        for place in amount_places(written):
            self.assertEqual(wrong_place(changed(written, place, one_more), before), place + (6,), written)
            if changed(written, place, one_less) != written:
                self.assertEqual(wrong_place(changed(written, place, one_less), before), place + (6,), written)

    def test_bill(self):
        random = Random(53)
        for turn in range(60):
            world = Delivered(random)
            texts = [world.text]
            while any(world.left) and len(texts) < 5:
                part, due = world.bill(random)
                row = shortened(random, part)
                answer, = ask_behind(texts, [("bill", 2, due.discount, row)])
                total, lines, taxes = draft_parts(answer)
                self.assertEqual((total, lines, taxes), (due.total, due.lines(), due.taxes))
                heading = f"invoice I{len(texts)} coin EUR day 3 refers D1\n"
                closing = due.closing_text(lines, due.discount, taxes, total)
                if len("".join(texts)) < 3000:
                    self.taken_with_just_these_amounts("".join(texts), heading, closing)
                texts.append(heading + closing)
            self.assertEqual(ask_behind(texts, [("left", 3)])[0][0], 0)

    def test_note(self):
        random = Random(59)
        for turn in range(60):
            told = random_invoice(random)
            texts = [told.order_text(), told.invoice_text()]
            for k, part in enumerate(random_parts(random, [line[0] for line in told.order])):
                answer, = ask_behind(texts, [("note", 3, shortened(random, part))])
                total, lines, taxes = draft_parts(answer)
                self.assertEqual((lines, taxes, total), told.credit(part))
                heading = f"credit C{k} coin EUR day 4 refers I1\n"
                closing = told.closing_text(lines, 0, taxes, total)
                if len("".join(texts)) < 3000:
                    self.taken_with_just_these_amounts("".join(texts), heading, closing)
                texts.append(heading + closing)
            self.assertEqual(ask_behind(texts, [("left", 3), ("note", 3, (1,))]), [[0, 0], [-7]])

    def test_note_of_an_invoice_of_a_part(self):
        random = Random(61)
        for turn in range(60):
            world = Delivered(random)
            part, due = world.bill(random)
            texts = [world.text, due.invoice_text()]
            for k, credited in enumerate(random_parts(random, [line[0] for line in due.order])):
                row = [0] * len(world.order)
                for number, quantity in zip(due.numbers, credited):
                    row[number - 1] = quantity
                answer, = ask_behind(texts, [("note", 3, shortened(random, row))])
                total, lines, taxes = draft_parts(answer)
                self.assertEqual((lines, taxes, total), due.credit(credited))
                texts.append(due.credit_text(k, (lines, taxes, total)))
            self.assertEqual(ask_behind(texts, [("left", 3)]), [[0, 0]])

    def test_note_of_the_rest(self):
        random = Random(67)
        for turn in range(60):
            told = random_invoice(random)
            left = [line[0] for line in told.order]
            texts = [told.order_text(), told.invoice_text()]
            amounts = [0] * len(left)
            taxes = {rate: [0, 0] for rate in told.rates}
            parts = random_parts(random, left)[:-1]
            for k, part in enumerate(parts):
                further = told.credit(part)
                texts.append(told.credit_text(k, further))
                left = [before - quantity for before, quantity in zip(left, part)]
                add_up(amounts, taxes, further[0], further[1])
            answer, before = ask_behind(texts, [("note", 3, left), ("left", 3)])
            total, lines, of_rest = draft_parts(answer)
            self.assertEqual(before, [0, total])
            add_up(amounts, taxes, lines, of_rest)
            self.assertEqual(amounts, told.nets)
            self.assertEqual(taxes, {rate: [base, tax] for rate, base, tax in told.taxes})
            self.assertEqual((lines, of_rest, total), deepcopy(told).credit(left))

    def test_any_other_amount_of_the_story(self):
        for call, heading in ((("bill", 5, 64, (0, 7)), "invoice I9 coin EUR day 13 refers D2\n"),
                              (("note", 4, (1,)), "credit C9 coin EUR day 14 refers I1\n")):
            total, lines, taxes = draft_parts(of_story(*call))
            for shift in (-30, -1, 1, 30, 100000000000):
                for place in range(4):
                    shifts = [shift if k == place else 0 for k in range(4)]
                    rows = story_rows(call, total, lines, taxes, shifts)
                    self.assertEqual(wrong_place(heading + rows, STORY)[2], 6, rows)
            self.assertEqual(wrong_place(heading + story_rows(call, total, lines, taxes, [0] * 4), STORY), (0, 0, 0))


def add_up(amounts, taxes, lines, further):
    for number, quantity, amount in lines:
        amounts[number - 1] += amount
    for rate, base, tax in further:
        taxes[rate] = [taxes[rate][0] + base, taxes[rate][1] + tax]


def story_rows(call, total, lines, taxes, shifts):
    """The rows behind the heading, the first line's amount, base, tax and the total shifted, never below 0."""
    def written(units):
        return written_amount(max(units, 0), 2)
    number, quantity, amount = lines[0]
    rate, base, tax = taxes[0]
    rows = [f"line {number} {quantity} = {written(amount + shifts[0])}"]
    if call[0] == "bill":
        rows.append(f"less {written(call[2])}")
    rows.append(f"tax {rate} {written(base + shifts[1])} = {written(tax + shifts[2])}")
    return "\n".join(rows + [f"total {written(total + shifts[3])}", "end", ""])


if __name__ == "__main__":
    unittest.main()
