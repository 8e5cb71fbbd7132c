"""What each call answers: 0 and what is told, or a refusal alone."""

from paperschain.archive import CREDIT, MOST_DOCUMENTS, ORDER, followers, quantity_left
from paperschain.printing import archive_bytes, document_text, text_bytes
from paperschain.reading import read_text
from paperschain.row import WrongPlace

REFUSED_RANGE = -1
REFUSED_NOT_THERE = -3
REFUSED_TEXT = -5

MOST_TEXT_BYTES = 3000
MOST_BYTE = 255


def is_text(row):
    return len(row) <= MOST_TEXT_BYTES and all([0 <= number <= MOST_BYTE for number in row])


# 0 if there is such a document, as refusals are below 0
def document_refusal(archive, number):
    if number < 1 or number > MOST_DOCUMENTS:
        return REFUSED_RANGE
    if number > len(archive.documents):
        return REFUSED_NOT_THERE
    return 0


def answer_read(archive, text):
    if not is_text(text):
        return [REFUSED_RANGE]
    try:
        read = read_text(archive, text)
    except WrongPlace:
        return [REFUSED_TEXT]
    archive.adopt(read)
    return [0, len(archive.documents)]


def answer_check(archive, text):
    if not is_text(text):
        return [REFUSED_RANGE]
    try:
        read_text(archive, text)
    except WrongPlace as e:
        return [0, e.line, e.word, e.why]
    return [0, 0, 0, 0]


def answer_print(archive, number):
    return [0] + text_bytes(document_text(archive, archive.document_at(number)))


def answer_file(archive):
    return [0] + archive_bytes(archive)


def answer_doc(archive, number):
    document = archive.document_at(number)
    told = [document.kind, document.coin, document.day, document.refers, document.discount, document.total]
    return [0] + told + text_bytes(document.name)


def answer_lines(archive, number):
    document = archive.document_at(number)
    answer = [0]
    for line in document.lines:
        if document.kind == ORDER:
            answer.extend([line.quantity, line.price, line.rate])
        else:
            answer.extend([line.number, line.quantity, line.amount])
    return answer


def answer_taxes(archive, number):
    answer = [0]
    for tax in archive.document_at(number).taxes:
        answer.extend([tax.rate, tax.base, tax.tax])
    return answer


def answer_open(archive, number):
    document = archive.document_at(number)
    answer = [0]
    if document.kind == CREDIT:
        return answer
    for line in document.lines:
        if document.kind != ORDER:
            answer.append(line.number)
        answer.append(quantity_left(archive, number, line))
    return answer


def answer_chain(archive, number):
    return [0, archive.document_at(number).order] + followers(archive, number)


FILE = 3
# apart, as the calls hand in a text, a document's number or nothing
TEXT_CALLS = {0: answer_read, 1: answer_check}
DOCUMENT_CALLS = {
    2: answer_print,
    4: answer_doc,
    5: answer_lines,
    6: answer_taxes,
    7: answer_open,
    8: answer_chain,
}


def answer_call(archive, asked):
    call = asked.next_number()
    if call == FILE:
        return answer_file(archive)
    if call in TEXT_CALLS:
        return TEXT_CALLS[call](archive, asked.next_row())
    number = asked.next_number()
    refusal = document_refusal(archive, number)
    if refusal != 0:
        return [refusal]
    return DOCUMENT_CALLS[call](archive, number)
