"""What each call answers: 0 and what is told, or a refusal alone."""

from paperschain.amounts import amounts_together, nets, settle, tax_shares
from paperschain.archive import CREDIT, DELIVERY, INVOICE, ORDER, Archive, followers, quantity_left
from paperschain.drafts import draft
from paperschain.printing import archive_bytes, document_text, text_bytes
from paperschain.reading import read_text
from paperschain.refusals import (
    REFUSED_DISCOUNT,
    REFUSED_KIND,
    REFUSED_RANGE,
    REFUSED_TEXT,
    coin_refusal,
    document_refusal,
    draft_refusal,
    is_text,
)
from paperschain.row import WrongPlace
from paperschain.tallies import counts_of_kinds, sums_of_coin, total_left


def line_numbers(lines):
    numbers = []
    for line in lines:
        numbers.extend([line.number, line.quantity, line.amount])
    return numbers


def tax_numbers(taxes):
    numbers = []
    for tax in taxes:
        numbers.extend([tax.rate, tax.base, tax.tax])
    return numbers


def answer_read(archive, text):
    if not is_text(text):
        return [REFUSED_RANGE]
    try:
        read = read_text(archive, text)
    except WrongPlace:
        return [REFUSED_TEXT]
    archive.adopt(read)
    return [0, len(archive.documents)]


def answer_check(archive, text):
    if not is_text(text):
        return [REFUSED_RANGE]
    try:
        read_text(archive, text)
    except WrongPlace as e:
        return [0, e.line, e.word, e.why]
    return [0, 0, 0, 0]


def answer_print(archive, number):
    return [0] + text_bytes(document_text(archive, archive.document_at(number)))


def answer_file(archive):
    return [0] + archive_bytes(archive)


def answer_doc(archive, number):
    document = archive.document_at(number)
    told = [document.kind, document.coin, document.day, document.refers, document.discount, document.total]
    return [0] + told + text_bytes(document.name)


def answer_lines(archive, number):
    document = archive.document_at(number)
    if document.kind != ORDER:
        return [0] + line_numbers(document.lines)
    answer = [0]
    for line in document.lines:
        answer.extend([line.quantity, line.price, line.rate])
    return answer


def answer_taxes(archive, number):
    return [0] + tax_numbers(archive.document_at(number).taxes)


def answer_open(archive, number):
    document = archive.document_at(number)
    answer = [0]
    if document.kind == CREDIT:
        return answer
    for line in document.lines:
        if document.kind != ORDER:
            answer.append(line.number)
        answer.append(quantity_left(archive, number, line))
    return answer


def answer_chain(archive, number):
    return [0, archive.document_at(number).order] + followers(archive, number)


def answer_spread(archive, number):
    document = archive.document_at(number)
    if document.kind in (ORDER, DELIVERY):
        return [REFUSED_KIND]
    answer = [0]
    for net, tax in zip(nets(document), tax_shares(archive, document)):
        answer.extend([net, tax, net + tax])
    return answer


def answer_left(archive, number):
    if archive.document_at(number).kind != INVOICE:
        return [REFUSED_KIND]
    return [0, total_left(archive, number)]


def answer_sums(archive, coin):
    refusal = coin_refusal(archive, coin)
    if refusal != 0:
        return [refusal]
    return [0] + tax_numbers(sums_of_coin(archive, coin))


def answer_bill(archive, number, discount, quantities):
    return answer_draft(archive, DELIVERY, number, discount, quantities)


def answer_note(archive, number, quantities):
    return answer_draft(archive, INVOICE, number, 0, quantities)


# kind: that of the document that the draft refers to
def answer_draft(archive, kind, number, discount, quantities):
    refusal = draft_refusal(archive, kind, number, discount, quantities)
    if refusal != 0:
        return [refusal]
    document = draft(archive, number, quantities)
    if discount > amounts_together(document):
        return [REFUSED_DISCOUNT]
    document.discount = discount
    settle(archive, document)
    answer = [0, document.total, len(document.lines)] + line_numbers(document.lines)
    return answer + [len(document.taxes)] + tax_numbers(document.taxes)


# byte by byte, so that a text that is no name is nobody's
def answer_find(archive, text):
    if not is_text(text):
        return [REFUSED_RANGE]
    for number, document in enumerate(archive.documents, start=1):
        if text_bytes(document.name) == text:
            return [0, number]
    return [0, 0]


def answer_clear(archive):
    archive.adopt(Archive([], []))
    return [0]


def answer_counts(archive):
    return [0, len(archive.coins)] + counts_of_kinds(archive)


SUMS = 11
BILL = 12
NOTE = 13
# apart by what the calls hand in: nothing, a text, a document's number
BARE_CALLS = {3: answer_file, 15: answer_clear, 16: answer_counts}
TEXT_CALLS = {0: answer_read, 1: answer_check, 14: answer_find}
DOCUMENT_CALLS = {
    2: answer_print,
    4: answer_doc,
    5: answer_lines,
    6: answer_taxes,
    7: answer_open,
    8: answer_chain,
    9: answer_spread,
    10: answer_left,
}


def answer_call(archive, asked):
    call = asked.next_number()
    if call in BARE_CALLS:
        return BARE_CALLS[call](archive)
    if call in TEXT_CALLS:
        return TEXT_CALLS[call](archive, asked.next_row())
    number = asked.next_number()
    if call == SUMS:
        return answer_sums(archive, number)
    if call == BILL:
        discount = asked.next_number()
        return answer_bill(archive, number, discount, asked.next_row())
    if call == NOTE:
        return answer_note(archive, number, asked.next_row())
    refusal = document_refusal(archive, number)
    if refusal != 0:
        return [refusal]
    return DOCUMENT_CALLS[call](archive, number)
