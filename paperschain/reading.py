"""Reading a text behind what is filed."""

from paperschain.amounts import amounts_together, line_amount, settle
from paperschain.archive import (
    DELIVERY,
    KIND_WORDS,
    MOST_COINS,
    MOST_DOCUMENTS,
    MOST_LINES,
    MOST_QUANTITY,
    ORDER,
    Coin,
    Document,
    Line,
    OrderLine,
    line_of,
    quantity_left,
)
from paperschain.row import (
    MORE_THAN_OPEN,
    NOT_HERE,
    NOT_THERE,
    NOT_WHAT_IT_HAS_TO_BE,
    OUT_OF_RANGE,
    TOLD_ALREADY,
    TOO_MANY,
    Row,
    WrongPlace,
)
from paperschain.words import EQUAL, sign_table, split_lines, split_words

MOST_DIGITS = 4
MOST_DAY = 100000
MOST_PRICE = 1000000
MOST_RATE = 5000

# what is due next within a document
AT_LINES = 0
AT_TAXES = 1
AT_TOTAL = 2
AT_END = 3

# by kind: the first words that may stand behind a document's first line
BEHIND_LINES = (("line", "end"), ("line", "end"), ("line", "less", "tax"), ("line", "tax"))


# the document stands outside the archive until its end files it
class Reader:
    def __init__(self, archive):
        self.archive = archive
        self.document = None
        self.stage = AT_LINES
        self.taxes_told = 0

    def coin_digits(self):
        return self.archive.coin_at(self.document.coin).digits


# gives back another archive, so that nothing of a wrong text is ever filed in the one that is handed in
def read_text(archive, text):
    reader = Reader(archive.copy())
    signs = sign_table()
    lines = split_lines(text)
    for number, line in enumerate(lines, start=1):
        words = split_words(line, signs)
        if words:
            read_row(reader, Row(number, words))
    if reader.document is not None:
        raise WrongPlace(len(lines) + 1, 1, NOT_HERE)
    return reader.archive


def read_row(reader, row):
    first = row.take()
    if reader.document is not None:
        read_within(reader, row, first)
    elif first == "money":
        read_money(reader.archive, row)
    elif first in KIND_WORDS:
        read_heading(reader, row, KIND_WORDS.index(first))
    else:
        row.fail(NOT_HERE)
    row.finish()


def read_money(archive, row):
    if len(archive.coins) == MOST_COINS:
        row.fail(TOO_MANY)
    name = row.take_coin_name()
    if archive.coin_number(name) != 0:
        row.fail(TOLD_ALREADY)
    archive.coins.append(Coin(name, row.take_number_within(0, MOST_DIGITS)))


def read_heading(reader, row, kind):
    archive = reader.archive
    if len(archive.documents) == MOST_DOCUMENTS:
        row.fail(TOO_MANY)
    name = row.take_document_name()
    if archive.document_number(name) != 0:
        row.fail(TOLD_ALREADY)
    row.take_word("coin")
    coin = archive.coin_number(row.take_coin_name())
    if coin == 0:
        row.fail(NOT_THERE)
    row.take_word("day")
    document = Document(kind, name, coin, row.take_number_within(0, MOST_DAY))
    if kind == ORDER:
        document.order = len(archive.documents) + 1
    else:
        read_refers(archive, row, document)
    reader.document = document
    reader.stage = AT_LINES
    reader.taxes_told = 0


def read_refers(archive, row, document):
    row.take_word("refers")
    number = archive.document_number(row.take_document_name())
    if number == 0 or archive.document_at(number).kind != document.kind - 1:
        row.fail(NOT_THERE)
    earlier = archive.document_at(number)
    if earlier.coin != document.coin:
        row.fail(NOT_WHAT_IT_HAS_TO_BE)
    if document.day < earlier.day:
        row.fail(OUT_OF_RANGE)
    document.refers = number
    document.order = earlier.order


def words_due(reader):
    if reader.stage == AT_TAXES:
        return ("tax",)
    if reader.stage == AT_TOTAL:
        return ("total",)
    if reader.stage == AT_END:
        return ("end",)
    if not reader.document.lines:
        return ("line",)
    return BEHIND_LINES[reader.document.kind]


def read_within(reader, row, first):
    if first not in words_due(reader):
        row.fail(NOT_HERE)
    if first == "line":
        read_line(reader, row)
    elif first == "less":
        read_less(reader, row)
    elif first == "tax":
        read_tax(reader, row)
    elif first == "total":
        row.take_due_amount(reader.coin_digits(), reader.document.total)
        reader.stage = AT_END
    else:
        reader.archive.documents.append(reader.document)
        reader.document = None


def read_line(reader, row):
    if reader.document.kind == ORDER:
        read_order_line(reader, row)
    else:
        read_further_line(reader, row)


def read_order_line(reader, row):
    lines = reader.document.lines
    if len(lines) == MOST_LINES:
        row.fail(TOO_MANY)
    item = row.take_item()
    if item in [line.item for line in lines]:
        row.fail(TOLD_ALREADY)
    quantity = row.take_number_within(1, MOST_QUANTITY)
    row.take_word("at")
    price = row.take_amount_within(reader.coin_digits(), 0, MOST_PRICE)
    row.take_word("rate")
    rate = row.take_number_within(0, MOST_RATE)
    lines.append(OrderLine(len(lines) + 1, item, quantity, price, rate))


def read_further_line(reader, row):
    archive = reader.archive
    document = reader.document
    number = row.take_number_within(1, MOST_LINES)
    if document.lines and number <= document.lines[-1].number:
        row.fail(TOLD_ALREADY)
    earlier_line = line_of(archive.document_at(document.refers), number)
    if earlier_line is None:
        row.fail(NOT_THERE)
    quantity = row.take_number_within(1, MOST_QUANTITY)
    if quantity > quantity_left(archive, document.refers, earlier_line):
        row.fail(MORE_THAN_OPEN)
    amount = line_amount(archive, document, number, quantity)
    if document.kind != DELIVERY:
        row.take_word(EQUAL)
        row.take_due_amount(reader.coin_digits(), amount)
    document.lines.append(Line(number, quantity, amount))


def read_less(reader, row):
    document = reader.document
    document.discount = row.take_amount_within(reader.coin_digits(), 1, amounts_together(document))
    settle(reader.archive, document)
    reader.stage = AT_TAXES


def read_tax(reader, row):
    document = reader.document
    if reader.stage == AT_LINES:
        settle(reader.archive, document)
        reader.stage = AT_TAXES
    due = document.taxes[reader.taxes_told]
    if row.take_number_within(0, MOST_RATE) != due.rate:
        row.fail(NOT_WHAT_IT_HAS_TO_BE)
    row.take_due_amount(reader.coin_digits(), due.base)
    row.take_word(EQUAL)
    row.take_due_amount(reader.coin_digits(), due.tax)
    reader.taxes_told += 1
    if reader.taxes_told == len(document.taxes):
        reader.stage = AT_TOTAL
