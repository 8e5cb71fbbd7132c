"""Why calls are refused, and what is looked at ahead of an answer."""

from paperschain.archive import MOST_COINS, MOST_DOCUMENTS, MOST_LINES, MOST_QUANTITY, MOST_UNITS
from paperschain.drafts import quantity_open

REFUSED_RANGE = -1
REFUSED_NOT_THERE = -3
REFUSED_KIND = -4
REFUSED_TEXT = -5
REFUSED_MORE_THAN_OPEN = -7
REFUSED_ALL_ZERO = -8
REFUSED_DISCOUNT = -9

MOST_TEXT_BYTES = 3000
MOST_BYTE = 255


def are_within(row, most_numbers, most):
    return len(row) <= most_numbers and all([0 <= number <= most for number in row])


def is_text(row):
    return are_within(row, MOST_TEXT_BYTES, MOST_BYTE)


def are_quantities(row):
    return are_within(row, MOST_LINES, MOST_QUANTITY)


# 0 if there is such a one, as refusals are below 0
def number_refusal(number, most, filed):
    if number < 1 or number > most:
        return REFUSED_RANGE
    if number > filed:
        return REFUSED_NOT_THERE
    return 0


def document_refusal(archive, number):
    return number_refusal(number, MOST_DOCUMENTS, len(archive.documents))


def coin_refusal(archive, number):
    return number_refusal(number, MOST_COINS, len(archive.coins))


# the ranges of all that is handed in come ahead of whether there is such a document
def draft_refusal(archive, kind, number, discount, quantities):
    if not 0 <= discount <= MOST_UNITS or not are_quantities(quantities):
        return REFUSED_RANGE
    refusal = document_refusal(archive, number)
    if refusal != 0:
        return refusal
    if archive.document_at(number).kind != kind:
        return REFUSED_KIND
    for line_number, quantity in enumerate(quantities, start=1):
        if quantity > quantity_open(archive, number, line_number):
            return REFUSED_MORE_THAN_OPEN
    if sum(quantities) == 0:
        return REFUSED_ALL_ZERO
    return 0
