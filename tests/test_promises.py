"""The promises 1, 2, 3 and 5, over many stories; 4 stands with bill and note."""

import unittest
from random import Random

from tests.helper import STORY, ask, ask_behind, further_questions, questions, text_of, wrong_place, written_amount
from tests.test_amounts import random_invoice, random_parts


def story(random):
    """A text with an order, a delivery, an invoice and its credit notes, and the invoice's story."""
    told = random_invoice(random)
    parts = random_parts(random, [line[0] for line in told.order])[:random.randrange(8)]
    credits = [told.credit_text(k, told.credit(part)) for k, part in enumerate(parts)]
    return told, [told.order_text(), told.invoice_text()] + credits


def amount_places(written):
    """(line, word), from 1, of each amount that has to be what it is."""
    places = []
    within = ""
    for line, row in enumerate(written.split("\n"), start=1):
        words = row.split(" ")
        within = words[0] if words[0] in ("order", "delivery", "invoice", "credit") else within
        if within in ("invoice", "credit"):
            places += [(line, word) for word, known in enumerate(words, start=1)
                       if (words[0], word) in (("line", 5), ("tax", 3), ("tax", 5), ("total", 2))]
    return places


def changed(written, place, change):
    rows = [row.split(" ") for row in written.split("\n")]
    line, word = place
    rows[line - 1][word - 1] = change(rows[line - 1][word - 1])
    return "\n".join(" ".join(words) for words in rows)


def shifted(amount, shift):
    """The amount so many units more, never below 0, with as many digits behind the point."""
    whole, point, rest = amount.partition(".")
    return written_amount(max(int(whole + rest) + shift, 0), len(rest))


def one_more(amount):
    return shifted(amount, 1)


def one_less(amount):
    return shifted(amount, -1)


class WhatIsFiledIsRight(unittest.TestCase):
    """Promise 1, and with the credit notes 2."""

    def test_any_other_amount_is_refused_at_its_place(self):
        random = Random(11)
        for turn in range(25):
            told, texts = story(random)
            written = "".join(texts)
            if len(written) > 3000:
                continue
            self.assertEqual(wrong_place(written), (0, 0, 0), written)
            for place in amount_places(written):
                self.assertEqual(wrong_place(changed(written, place, one_more)), place + (6,), written)

    def test_amounts_lines_taxes_and_total(self):
        random = Random(12)
        for turn in range(50):
            told, texts = story(random)
            given = ask(*[("read", text) for text in texts], ("doc", 3), ("lines", 3), ("taxes", 3))
            doc, lines, taxes = given[-3:]
            self.assertEqual(doc[:7], [0, 2, 1, 4, 2, told.discount, told.total])
            self.assertEqual(lines[3::3], told.amounts)
            self.assertEqual(taxes[1:], [number for tax in told.taxes for number in tax])

    def test_no_piece_twice(self):
        start = "money EUR 0\norder O1 coin EUR day 0\nline a 5 at 1 rate 0\nend\n"
        delivery = "delivery {} coin EUR day 0 refers O1\nline 1 {}\nend\n"
        invoice = "invoice {} coin EUR day 0 refers {}\nline 1 {q} = {q}\ntax 0 {q} = 0\ntotal {q}\nend\n"
        credit = "credit {} coin EUR day 0 refers {}\nline 1 {q} = {q}\ntax 0 {q} = 0\ntotal {q}\nend\n"
        steps = [
            (start, [0, 1]),
            (delivery.format("D1", 6), [-5]),
            (delivery.format("D1", 3), [0, 2]),
            (delivery.format("D2", 3), [-5]),
            (delivery.format("D2", 2), [0, 3]),
            (delivery.format("D3", 1), [-5]),
            (invoice.format("I1", "D1", q=4), [-5]),
            (invoice.format("I1", "D1", q=2), [0, 4]),
            (invoice.format("I2", "D1", q=2), [-5]),
            (invoice.format("I2", "D1", q=1), [0, 5]),
            (invoice.format("I3", "D1", q=1), [-5]),
            (credit.format("C1", "I1", q=3), [-5]),
            (credit.format("C1", "I1", q=1), [0, 6]),
            (credit.format("C2", "I1", q=2), [-5]),
            (credit.format("C2", "I1", q=1), [0, 7]),
            (credit.format("C3", "I1", q=1), [-5]),
            # what was credited isn't open again at the delivery, nor at the order
            (invoice.format("I3", "D1", q=1), [-5]),
            (delivery.format("D3", 1), [-5]),
        ]
        self.assertEqual(ask(*[("read", text) for text, told in steps]), [told for text, told in steps])


class NeverBeyond(unittest.TestCase):
    """Promise 2: nothing more can be credited of what is credited."""

    def test_one_piece_more(self):
        random = Random(13)
        for turn in range(40):
            told = random_invoice(random)
            parts = random_parts(random, [line[0] for line in told.order])
            texts = [told.order_text(), told.invoice_text()]
            texts += [told.credit_text(k, told.credit(part)) for k, part in enumerate(parts)]
            for line in range(1, len(told.order) + 1):
                more = f"credit C99 coin EUR day 5 refers I1\nline {line} 1 = {told.written(0)}"
                given = ask(*[("read", text) for text in texts], ("check", more), ("read", more), ("open", 3))
                self.assertEqual(given[-3:-1], [[0, 2, 3, 7], [-5]])
                self.assertEqual(given[-1][2::2], [0] * len(told.order))


class WholeOrNothing(unittest.TestCase):
    """Promise 3."""

    def test_what_stands_behind_the_first_wrong_place_does_not_matter(self):
        random = Random(17)
        for turn in range(60):
            told, texts = story(random)
            written = "".join(texts)[:2900]
            rows = written.split("\n")
            line = random.randrange(len(rows) - 1)
            words = rows[line].split(" ")
            word = random.randrange(len(words))
            wrong = random.choice(("?", "Order", "=x", "00", "\t"))
            ahead = "\n".join(rows[:line] + [" ".join(words[:word] + [wrong])])
            for behind in ("", " ", "\n", " x", "\nend\nend\n", "\n" + "\n".join(rows[line + 1:]), " \xff\0"):
                self.assertEqual(wrong_place(ahead + behind), (line + 1, word + 1, 1))

    def test_every_beginning_of_a_text(self):
        random = Random(19)
        told, texts = story(random)
        written = "".join(texts)[:3000]
        whole = {written[:k] for k in range(len(written) + 1) if written[:k] == "" or written[:k].endswith("end")}
        for k in range(0, len(written) + 1):
            part = written[:k]
            read, place, filed = ask(("read", part), ("check", part), ("file",))
            if read == [-5]:
                self.assertEqual(filed, [0])
                self.assertNotIn(part, whole)
            else:
                # as many documents as have ended
                self.assertEqual(read, [0, part.split().count("end")])

    def test_nothing_changes_with_a_wrong_text(self):
        random = Random(23)
        for turn in range(30):
            told, texts = story(random)
            asked = questions(min(len(texts) + 1, 6))
            reads = [("read", text) for text in texts]
            wrong = "money USD 2\norder A1 coin USD day 1\nline a 1 at 1.00 rate 0\nend\norder"
            before = ask(*reads, *asked)[len(reads):]
            after = ask(*reads, ("read", wrong), *asked)
            self.assertEqual(after[len(reads)], [-5])
            self.assertEqual(after[len(reads) + 1:], before)


class OneForm(unittest.TestCase):
    """Promise 5."""

    def test_read_by_a_new_object(self):
        random = Random(29)
        for turn in range(60):
            told, texts = story(random)
            loose = [text.replace(" ", "   ").replace("\n", " \n\n  ") for text in texts]
            asked = questions(len(texts) + 1)[:60 - len(texts)]
            given = ask(*[("read", text) for text in texts], *asked)[len(texts):]
            form = given[0][1:]
            self.assertEqual(text_of(form), "".join(texts))
            if max(len(text) for text in loose) <= 3000:
                self.assertEqual(ask(*[("read", text) for text in loose], *asked)[len(texts):], given)
            if len(form) <= 3000:
                self.assertEqual(ask(("read", form), *asked)[1:], given)

    def test_read_by_a_new_object_it_answers_all_calls_alike(self):
        random = Random(37)
        for turn in range(12):
            told, texts = story(random)
            documents = len(texts) + 1
            asked = questions(documents) + further_questions(documents)
            given = ask_behind(texts, asked)
            self.assertEqual(ask_behind([text_of(given[0][1:])], asked), given)

    def test_of_the_story(self):
        asked = questions(9) + further_questions(9)
        given = ask_behind([STORY], asked)
        self.assertEqual(ask_behind([text_of(given[0][1:])], asked), given)
        cleared = ask(("read", STORY), ("clear",), ("read", given[0][1:]), ("file",))
        self.assertEqual(cleared[2:], [[0, 8], given[0]])

    def test_print_is_a_part_of_file(self):
        random = Random(31)
        told, texts = story(random)
        documents = len(texts) + 1
        reads = [("read", text) for text in texts]
        given = ask(*reads, ("file",), *[("print", n) for n in range(1, documents + 1)])[len(reads):]
        money = f"money EUR {told.digits}\n"
        self.assertEqual(text_of(given[0][1:]), money + "".join(text_of(answer[1:]) for answer in given[1:]))


if __name__ == "__main__":
    unittest.main()
