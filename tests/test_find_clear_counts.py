"""The calls 14 to 16: a document by its name, nothing filed any more, and how many are filed."""

import unittest

from tests.helper import LEAST, MOST, STORY, ask, bytes_of, further_questions, of_story, questions

NAMES = ("O1", "D1", "O2", "I1", "D2", "C1", "I2", "C20")


class Find(unittest.TestCase):
    def test_each_name(self):
        for n, name in enumerate(NAMES, start=1):
            self.assertEqual(of_story("find", name), [0, n])

    def test_names_that_are_not_there(self):
        for name in ("O3", "O10", "C2", "C200", "O01", "D0", "Z1234567"):
            self.assertEqual(of_story("find", name), [0, 0])

    def test_names_that_differ_by_their_zeros(self):
        read = ("read", "money EUR 0\n" + "".join(
            f"order {name} coin EUR day 1\nline a 1 at 1 rate 0\nend\n" for name in ("A01", "A1", "A10", "A1234567")))
        given = ask(read, *[("find", name) for name in ("A1", "A01", "A10", "A1234567", "A001", "A0")])
        self.assertEqual(given[1:], [[0, 2], [0, 1], [0, 3], [0, 4], [0, 0], [0, 0]])

    def test_texts_that_are_no_name(self):
        for text in ("", " ", "\n", "O", "1", "o1", "O1 ", " O1", "O1\n", "O1O1", "O1 D1", "EUR", "bolt", "\0", "\xff",
                     "O?", "O1" * 1500, " " * 3000):
            self.assertEqual(of_story("find", text), [0, 0], text[:20])

    def test_nothing_filed(self):
        self.assertEqual(ask(("find", "O1"), ("find", "")), [[0, 0], [0, 0]])

    def test_out_of_range(self):
        for text in ([-1], [256], [LEAST], [MOST], bytes_of("O1") + [256], [-1] + bytes_of("O1"), [32] * 3001,
                     bytes_of("O1") + [0] * 2998 + [300]):
            self.assertEqual(of_story("find", text), [-1])
            self.assertEqual(ask(("find", text)), [[-1]])

    def test_nothing_changes(self):
        asked = [("find", name) for name in ("O1", "C20", "x", "", [300])]
        given = ask(("read", STORY), *asked, *questions(8))
        self.assertEqual(given[1 + len(asked):], ask(("read", STORY), *questions(8))[1:])


class Clear(unittest.TestCase):
    def test_as_on_a_new_object(self):
        for calls in (questions(8), further_questions(8)[:55], further_questions(8)[55:110], [("check", STORY)],
                      [("check", "order A1 coin EUR day 1")], [("read", STORY), *questions(8)],
                      [("read", STORY), *further_questions(8)[:55]], [("read", STORY), ("read", STORY), ("file",)]):
            given = ask(("read", STORY), ("clear",), *calls)
            self.assertEqual(given[:2], [[0, 8], [0]])
            self.assertEqual(given[2:], ask(*calls))

    def test_nothing_filed(self):
        given = ask(("clear",), ("clear",), ("file",), ("counts",), ("doc", 1), ("sums", 1), ("find", "O1"))
        self.assertEqual(given, [[0], [0], [0], [0, 0, 0, 0, 0, 0], [-3], [-3], [0, 0]])

    def test_behind_a_refused_text(self):
        given = ask(("read", STORY), ("read", "x"), ("clear",), ("read", "money EUR 2\nx"), ("counts",))
        self.assertEqual(given, [[0, 8], [-5], [0], [-5], [0, 0, 0, 0, 0, 0]])

    def test_room_for_coins_and_documents_again(self):
        coins = "money AAA 0\nmoney BBB 0\nmoney CCC 0\nmoney DDD 0\n"
        orders = "".join(f"order A{k} coin AAA day 1\nline a 1 at 1 rate 0\nend\n" for k in range(40))
        given = ask(("read", coins), ("read", orders), ("read", "money EUR 2"), ("clear",), ("read", "money EUR 2"),
                    ("clear",), ("read", coins), ("read", orders), ("counts",))
        self.assertEqual(given, [[0, 0], [0, 40], [-5], [0], [0, 0], [0], [0, 0], [0, 40], [0, 4, 40, 0, 0, 0]])


class Counts(unittest.TestCase):
    def test_before_and_behind(self):
        given = ask(("counts",), ("check", STORY), ("counts",), ("read", STORY), ("counts",), ("read", "money USD 2"),
                    ("counts",), ("read", "x"), ("counts",), ("clear",), ("counts",))
        self.assertEqual(given[0::2], [[0, 0, 0, 0, 0, 0]] * 2 + [[0, 2, 2, 2, 2, 2]] + [[0, 3, 2, 2, 2, 2]] * 2
                         + [[0, 0, 0, 0, 0, 0]])

    def test_each_kind(self):
        delivery = "delivery {} coin EUR day 0 refers A1\nline 1 4\nend\n"
        closing = "line 1 1 = 1\ntax 0 1 = 0\ntotal 1\nend\n"
        texts = [
            "money EUR 0\norder A1 coin EUR day 0\nline a 9 at 1 rate 0\nend\n",
            delivery.format("B1") + delivery.format("B2"),
            "".join(f"invoice I{k} coin EUR day 0 refers B1\n{closing}" for k in range(3)),
            "".join(f"credit C{k} coin EUR day 0 refers I{k}\n{closing}" for k in range(2)),
            "money JPY 0\nmoney USD 0\nmoney CHF 0\n",
            "invoice I9 coin EUR day 0 refers B2\nline 1 4 = 4\ntax 0 4 = 0\ntotal 4\nend\n",
        ]
        calls = [call for text in texts for call in (("read", text), ("counts",))]
        self.assertEqual(ask(*calls)[1::2], [
            [0, 1, 1, 0, 0, 0], [0, 1, 1, 2, 0, 0], [0, 1, 1, 2, 3, 0], [0, 1, 1, 2, 3, 2], [0, 4, 1, 2, 3, 2],
            [0, 4, 1, 2, 4, 2]])


if __name__ == "__main__":
    unittest.main()
