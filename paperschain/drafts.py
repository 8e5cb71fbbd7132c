"""Documents that aren't filed: what an invoice of a delivery or a credit note of an invoice would say."""

from paperschain.amounts import line_amount
from paperschain.archive import Document, Line, line_of, quantity_left


# 0 of a line that the document doesn't have
def quantity_open(archive, number, line_number):
    line = line_of(archive.document_at(number), line_number)
    if line is None:
        return 0
    return quantity_left(archive, number, line)


# of the kind that refers to the document; nameless, as only its amounts are asked for
def draft(archive, number, quantities):
    earlier = archive.document_at(number)
    document = Document(earlier.kind + 1, "", earlier.coin, earlier.day)
    document.refers = number
    document.order = earlier.order
    for line_number, quantity in enumerate(quantities, start=1):
        if quantity != 0:
            amount = line_amount(archive, document, line_number, quantity)
            document.lines.append(Line(line_number, quantity, amount))
    return document
