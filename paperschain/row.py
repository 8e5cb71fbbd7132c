"""One line of a text, whose words are taken one after the other."""

from paperschain.archive import MOST_UNITS
from paperschain.words import (
    MOST_NUMBER_DIGITS,
    amount_units,
    is_coin_name,
    is_document_name,
    is_item,
    is_number,
)

NOT_HERE = 1
TOLD_ALREADY = 2
NOT_THERE = 3
OUT_OF_RANGE = 4
TOO_MANY = 5
NOT_WHAT_IT_HAS_TO_BE = 6
MORE_THAN_OPEN = 7


# raised at the first wrong word, so that nothing behind it is looked at
class WrongPlace(Exception):
    def __init__(self, line, word, why):
        Exception.__init__(self)
        self.line = line
        self.word = word
        self.why = why


class Row:
    def __init__(self, number, words):
        self.number = number
        self.words = words
        self.place = 0

    # the word that was taken last is the wrong one; a lacking word counts as taken, one behind the last
    def fail(self, why):
        raise WrongPlace(self.number, self.place, why)

    def take(self):
        self.place += 1
        if self.place > len(self.words):
            self.fail(NOT_HERE)
        return self.words[self.place - 1]

    def finish(self):
        if self.place < len(self.words):
            self.place += 1
            self.fail(NOT_HERE)

    def take_word(self, due):
        if self.take() != due:
            self.fail(NOT_HERE)

    def take_coin_name(self):
        word = self.take()
        if not is_coin_name(word):
            self.fail(NOT_HERE)
        return word

    def take_document_name(self):
        word = self.take()
        if not is_document_name(word):
            self.fail(NOT_HERE)
        return word

    def take_item(self):
        word = self.take()
        if not is_item(word):
            self.fail(NOT_HERE)
        return word

    def take_number_within(self, least, most):
        word = self.take()
        if not is_number(word, MOST_NUMBER_DIGITS):
            self.fail(NOT_HERE)
        number = int(word)
        if number < least or number > most:
            self.fail(OUT_OF_RANGE)
        return number

    def take_amount_within(self, digits, least, most):
        units = amount_units(self.take(), digits)
        if units is None:
            self.fail(NOT_HERE)
        if units < least or units > most:
            self.fail(OUT_OF_RANGE)
        return units

    def take_due_amount(self, digits, due):
        if self.take_amount_within(digits, 0, MOST_UNITS) != due:
            self.fail(NOT_WHAT_IT_HAS_TO_BE)
