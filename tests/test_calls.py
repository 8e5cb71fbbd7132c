"""The calls 0 to 8, and of all calls the list that is handed in and given back."""

import unittest

from paperschain.filed import answers
from tests.helper import (
    LEAST,
    MOST,
    STORY,
    ask,
    ask_last,
    bytes_of,
    flat,
    further_questions,
    of_story,
    questions,
    split,
    text_of,
)

FORM = {
    1: """order O1 coin EUR day 10
line bolt 10 at 1.05 rate 1900
line nut 20 at 0.33 rate 700
line gift 5 at 0.00 rate 700
end
""",
    2: """delivery D1 coin EUR day 12 refers O1
line 1 6
line 3 5
end
""",
    3: """order O2 coin JPY day 11
line tea 3 at 1000000 rate 0
end
""",
    4: """invoice I1 coin EUR day 14 refers D1
line 1 4 = 4.20
line 3 2 = 0.00
less 0.21
tax 700 0.00 = 0.00
tax 1900 3.99 = 0.76
total 4.75
end
""",
    5: """delivery D2 coin EUR day 13 refers O1
line 2 8
end
""",
    6: """credit C1 coin EUR day 16 refers I1
line 1 1 = 1.00
tax 1900 1.00 = 0.19
total 1.19
end
""",
    7: """invoice I2 coin EUR day 12 refers D1
line 1 2 = 2.10
tax 1900 2.10 = 0.40
total 2.50
end
""",
    8: """credit C20 coin EUR day 16 refers I1
line 1 2 = 1.99
line 3 2 = 0.00
tax 700 0.00 = 0.00
tax 1900 1.99 = 0.38
total 2.37
end
""",
}
WHOLE_FORM = "money EUR 2\nmoney JPY 0\n" + "".join(FORM.values())
DOCUMENT_CALLS = ("print", "doc", "lines", "taxes", "open", "chain")


class Read(unittest.TestCase):
    def test_how_many_documents(self):
        self.assertEqual(ask(("read", STORY)), [[0, 8]])
        self.assertEqual(ask(("read", "")), [[0, 0]])
        self.assertEqual(ask(("read", "money EUR 2")), [[0, 0]])
        self.assertEqual(ask(("read", STORY), ("read", ""), ("read", "money USD 2")), [[0, 8]] * 3)

    def test_read_behind_what_is_filed(self):
        given = ask(("read", "money EUR 2\n"), ("read", FORM[1]), ("read", FORM[2]), ("file",))
        self.assertEqual(given[:3], [[0, 0], [0, 1], [0, 2]])
        self.assertEqual(text_of(given[3][1:]), "money EUR 2\n" + FORM[1] + FORM[2])

    def test_the_same_text_twice(self):
        given = ask(("read", STORY), ("read", STORY), ("check", STORY), *questions(8))
        self.assertEqual(given[1], [-5])
        self.assertEqual(given[2], [0, 2, 2, 2])
        self.assertEqual(given[3:], ask(("read", STORY), *questions(8))[1:])
        twice = ask(("read", "money EUR 2\n" + FORM[1]), ("read", FORM[1]), ("check", FORM[1]))
        self.assertEqual(twice, [[0, 1], [-5], [0, 1, 2, 2]])

    def test_refused_out_of_range(self):
        for wrong in (-1, 256, LEAST, MOST):
            for text in ([wrong], bytes_of("money USD 2\n") + [wrong], [wrong] + bytes_of("x")):
                given = ask(("read", STORY), ("read", text), ("check", text), ("file",), ("read", "money USD 2"))
                self.assertEqual(given[1:3], [[-1], [-1]])
                self.assertEqual(text_of(given[3][1:]), WHOLE_FORM)
                self.assertEqual(given[4], [0, 8])

    def test_bytes_0_and_255_are_within_the_range(self):
        for byte in (0, 255):
            self.assertEqual(ask(("read", [byte]), ("check", [byte])), [[-5], [0, 1, 1, 1]])

    def test_texts_of_3000_bytes(self):
        self.assertEqual(ask(("read", [32] * 3000), ("check", [10] * 3000)), [[0, 0], [0, 0, 0, 0]])
        self.assertEqual(ask(("check", [10] * 2999 + bytes_of("x"))), [[0, 3000, 1, 1]])
        self.assertEqual(ask(("check", bytes_of("x ") * 1500)), [[0, 1, 1, 1]])
        self.assertEqual(ask(("read", [32] * 3001), ("check", [32] * 3001)), [[-1], [-1]])

    def test_nothing_of_a_wrong_text_is_filed(self):
        more = "money USD 2\norder A1 coin USD day 1\nline a 1 at 1.00 rate 0\nend\n"
        behind = "delivery A2 coin USD day 1 refers A1\nline 1 1\nend\n"
        for wrong in ("x", more, "order B1 coin USD day 1\n", "order B1 coin USD day 1\nline a 1 at 1.00 rate 5001"):
            given = ask(("read", STORY), ("read", more + behind + wrong), ("read", behind), *questions(9))
            self.assertEqual(given[1:3], [[-5], [-5]])
            self.assertEqual(given[3:], ask(("read", STORY), *questions(9))[1:])
            self.assertEqual(given[-1], [-3])


class Check(unittest.TestCase):
    def test_answers(self):
        self.assertEqual(ask(("check", "")), [[0, 0, 0, 0]])
        self.assertEqual(ask(("check", STORY)), [[0, 0, 0, 0]])
        self.assertEqual(ask(("check", "money EUR 2\n\nmoney EUR 2\n")), [[0, 3, 2, 2]])

    def test_behind_what_is_filed(self):
        given = ask(("read", "money EUR 2"), ("check", FORM[1]), ("check", "money EUR 3"))
        self.assertEqual(given[1:], [[0, 0, 0, 0], [0, 1, 2, 2]])

    def test_it_files_nothing(self):
        given = ask(("check", STORY), ("file",), ("doc", 1), ("check", STORY), ("read", STORY))
        self.assertEqual(given, [[0, 0, 0, 0], [0], [-3], [0, 0, 0, 0], [0, 8]])


class OfDocuments(unittest.TestCase):
    def test_refusals(self):
        for name in DOCUMENT_CALLS:
            for n in (0, -1, 41, 1000, LEAST, MOST):
                self.assertEqual(of_story(name, n), [-1], (name, n))
                self.assertEqual(ask((name, n)), [[-1]])
            for n in (9, 40):
                self.assertEqual(of_story(name, n), [-3], (name, n))
            self.assertEqual(ask((name, 1)), [[-3]])

    def test_refusals_change_nothing(self):
        calls = [(name, n) for name in DOCUMENT_CALLS for n in (0, 9)]
        given = ask(("read", STORY), *calls, *questions(7))
        self.assertEqual(given[1 + len(calls):], ask(("read", STORY), *questions(7))[1:])

    def test_document_40(self):
        first = "".join(f"order A{k} coin EUR day 1\nline a 1 at 1 rate 0\nend\n" for k in range(40))
        given = ask(("read", "money EUR 0\n" + first), ("doc", 40), ("chain", 40), ("doc", 41))
        self.assertEqual(given, [[0, 40], [0, 0, 1, 1, 0, 0, 0] + bytes_of("A39"), [0, 40], [-1]])

    def test_print(self):
        for n, form in FORM.items():
            self.assertEqual(of_story("print", n), [0] + bytes_of(form))

    def test_doc(self):
        told = {
            1: [0, 1, 10, 0, 0, 0, "O1"],
            2: [1, 1, 12, 1, 0, 0, "D1"],
            3: [0, 2, 11, 0, 0, 0, "O2"],
            4: [2, 1, 14, 2, 21, 475, "I1"],
            5: [1, 1, 13, 1, 0, 0, "D2"],
            6: [3, 1, 16, 4, 0, 119, "C1"],
            7: [2, 1, 12, 2, 0, 250, "I2"],
            8: [3, 1, 16, 4, 0, 237, "C20"],
        }
        for n, row in told.items():
            self.assertEqual(of_story("doc", n), [0] + row[:-1] + bytes_of(row[-1]))

    def test_lines(self):
        told = {
            1: [10, 105, 1900, 20, 33, 700, 5, 0, 700],
            2: [1, 6, 0, 3, 5, 0],
            3: [3, 1000000, 0],
            4: [1, 4, 420, 3, 2, 0],
            5: [2, 8, 0],
            6: [1, 1, 100],
            7: [1, 2, 210],
            8: [1, 2, 199, 3, 2, 0],
        }
        for n, row in told.items():
            self.assertEqual(of_story("lines", n), [0] + row)

    def test_taxes(self):
        told = {
            1: [], 2: [], 3: [], 5: [],
            4: [700, 0, 0, 1900, 399, 76],
            6: [1900, 100, 19],
            7: [1900, 210, 40],
            8: [700, 0, 0, 1900, 199, 38],
        }
        for n, row in told.items():
            self.assertEqual(of_story("taxes", n), [0] + row)

    def test_open(self):
        told = {1: [4, 12, 0], 2: [1, 0, 3, 3], 3: [3], 4: [1, 1, 3, 0], 5: [2, 8], 6: [], 7: [1, 2], 8: []}
        for n, row in told.items():
            self.assertEqual(of_story("open", n), [0] + row)

    def test_chain(self):
        told = {1: [1, 2, 5], 2: [1, 4, 7], 3: [3], 4: [1, 6, 8], 5: [1], 6: [1], 7: [1], 8: [1]}
        for n, row in told.items():
            self.assertEqual(of_story("chain", n), [0] + row)

    def test_chain_of_a_later_order(self):
        written = WHOLE_FORM + "delivery D3 coin JPY day 11 refers O2\nline 1 3\nend\n"
        self.assertEqual(ask(("read", written), ("chain", 9), ("chain", 3))[1:], [[0, 3], [0, 3, 9]])


class File(unittest.TestCase):
    def test_nothing_filed(self):
        self.assertEqual(ask(("file",)), [[0]])

    def test_money_comes_first(self):
        self.assertEqual(text_of(ask_last(("read", STORY), ("file",))[1:]), WHOLE_FORM)

    def test_money_alone(self):
        given = ask_last(("read", "money XYZ 4\n  money   ABC 0"), ("file",))
        self.assertEqual(text_of(given[1:]), "money XYZ 4\nmoney ABC 0\n")

    def test_amounts_with_0_to_4_digits(self):
        for digits, price, amount in ((0, "3", "6"), (1, "0.3", "0.6"), (2, "0.03", "0.06"), (3, "0.003", "0.006"),
                                      (4, "0.0003", "0.0006"), (4, "100.0000", "200.0000"),
                                      (2, "10000.00", "20000.00")):
            form = (f"money EUR {digits}\norder O1 coin EUR day 0\nline a 2 at {price} rate 0\nend\n"
                    "delivery D1 coin EUR day 0 refers O1\nline 1 2\nend\n"
                    f"invoice I1 coin EUR day 0 refers D1\nline 1 2 = {amount}\n"
                    f"tax 0 {amount} = {written_0(digits)}\ntotal {amount}\nend\n")
            given = ask(("read", form), ("file",))
            self.assertEqual(given[0], [0, 3], form)
            self.assertEqual(text_of(given[1][1:]), form)

    def test_the_one_form_is_read_as_just_that(self):
        form = ask_last(("read", STORY), ("file",))[1:]
        self.assertEqual(ask(("read", form), *questions(8)), ask(("read", STORY), *questions(8)))


def written_0(digits):
    return "0." + "0" * digits if digits else "0"


class Lists(unittest.TestCase):
    def test_what_is_given_back_call_by_call(self):
        calls = [0, 11] + bytes_of("money EUR 2") + [3, 2, 1, 4, 0, 1, 1, 120, 0, 1, 256, 0, 1, 120, 3]
        form = bytes_of("money EUR 2\n")
        told = [2, 0, 0, 13, 0] + form + [1, -3, 1, -1, 4, 0, 1, 1, 1, 1, -1, 1, -5, 13, 0] + form
        self.assertEqual(answers(calls), told)

    def test_one_call(self):
        self.assertEqual(answers([3]), [1, 0])
        self.assertEqual(answers([0, 0]), [2, 0, 0])
        self.assertEqual(answers([8, 5]), [1, -3])

    def test_further_calls_one_behind_another(self):
        form = bytes_of("money EUR 2\norder A1 coin EUR day 0\nline a 3 at 0.10 rate 500\nend\n"
                        "delivery B1 coin EUR day 0 refers A1\nline 1 3\nend\n")
        calls = [0, len(form)] + form + [
            12, 2, 0, 1, 3, 12, 2, 1, 3, 3, 0, 0, 12, 2, 0, 0, 13, 2, 1, 3, 11, 1, 11, 0, 9, 2, 10, 40, 14, 2, 66, 49,
            14, 0, 16, 15, 16, 12, 2, 0, 1, 3, 3]
        self.assertEqual(answers(calls), [2, 0, 2] + [
            10, 0, 32, 1, 1, 3, 30, 1, 500, 30, 2, 10, 0, 30, 1, 1, 3, 30, 1, 500, 29, 1, 1, -8, 1, -4, 1, 0, 1, -1,
            1, -4, 1, -3, 2, 0, 2, 2, 0, 0, 6, 0, 1, 1, 1, 0, 0, 1, 0, 6, 0, 0, 0, 0, 0, 0, 1, -3, 1, 0])

    def test_rows_of_3000_numbers(self):
        for row in ([0] * 3000, [MOST] * 3000, [LEAST] * 3000):
            given = ask(("read", STORY), ("bill", 5, 0, row), ("note", 4, row), ("find", row), ("counts",))
            self.assertEqual(given[1:3], [[-1], [-1]])
            self.assertEqual(given[3], [0, 0] if row[0] == 0 else [-1])
            self.assertEqual(given[4], [0, 2, 2, 2, 2, 2])

    def test_60_calls(self):
        given = ask(*[("read", STORY)] + [("lines", 1), ("open", 4), ("taxes", 41)] * 19 + [("file",), ("chain", 4)])
        self.assertEqual(len(given), 60)
        self.assertEqual(given[1:58:3], [given[1]] * 19)
        self.assertEqual(given[3:58:3], [[-1]] * 19)
        self.assertEqual(text_of(given[58][1:]), WHOLE_FORM)

    def test_the_list_is_not_changed(self):
        calls = flat([("read", STORY), ("check", STORY), ("read", [300]), *further_questions(2), ("clear",)])
        before = list(calls)
        answers(calls)
        self.assertEqual(calls, before)

    def test_the_same_list_gives_the_same(self):
        calls = flat([("read", STORY), *further_questions(2), ("clear",), ("read", STORY), ("file",)])
        first = answers(calls)
        answers(flat([("read", "money EUR 4")]))
        self.assertEqual(answers(calls), first)
        self.assertEqual(answers([3]), [1, 0])

    def test_what_is_given_back_is_whole_numbers(self):
        for asked in (questions(9), further_questions(2), further_questions(9)[-50:]):
            given = answers(flat([("read", STORY), ("check", "x"), *asked, ("clear",)]))
            self.assertIs(type(given), list)
            self.assertEqual({type(number) for number in given}, {int})
            self.assertEqual(sum(len(answer) + 1 for answer in split(given)), len(given))

    def test_changing_what_is_given_back_changes_nothing(self):
        calls = flat([("read", STORY), ("file",)])
        given = answers(calls)
        kept = list(given)
        given.clear()
        self.assertEqual(answers(calls), kept)

    def test_long_texts_are_gone_through_by_loops(self):
        deep = ask(("check", [10] * 3000), ("check", bytes_of("x ") * 1500), ("check", [120] * 3000))
        self.assertEqual(deep, [[0, 0, 0, 0], [0, 1, 1, 1], [0, 1, 1, 1]])


if __name__ == "__main__":
    unittest.main()
