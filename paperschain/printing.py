"""The one form of what is filed."""

from paperschain.archive import DELIVERY, KIND_WORDS, ORDER
from paperschain.words import EQUAL, POINT


def archive_bytes(archive):
    written = "".join([money_text(coin) for coin in archive.coins])
    for document in archive.documents:
        written += document_text(archive, document)
    return text_bytes(written)


def text_bytes(written):
    return [ord(sign) for sign in written]


def row_text(words):
    return " ".join(words) + "\n"


def money_text(coin):
    return row_text(["money", coin.name, str(coin.digits)])


def document_text(archive, document):
    digits = archive.coin_at(document.coin).digits
    rows = [heading_words(archive, document)]
    for line in document.lines:
        rows.append(line_words(document, line, digits))
    if document.kind > DELIVERY:
        rows.extend(closing_rows(document, digits))
    rows.append(["end"])
    return "".join([row_text(words) for words in rows])


def heading_words(archive, document):
    coin = archive.coin_at(document.coin)
    words = [KIND_WORDS[document.kind], document.name, "coin", coin.name, "day", str(document.day)]
    if document.kind != ORDER:
        words.extend(["refers", archive.document_at(document.refers).name])
    return words


def line_words(document, line, digits):
    if document.kind == ORDER:
        price = amount_text(line.price, digits)
        return ["line", line.item, str(line.quantity), "at", price, "rate", str(line.rate)]
    words = ["line", str(line.number), str(line.quantity)]
    if document.kind != DELIVERY:
        words.extend([EQUAL, amount_text(line.amount, digits)])
    return words


def closing_rows(document, digits):
    rows = []
    if document.discount != 0:
        rows.append(["less", amount_text(document.discount, digits)])
    for tax in document.taxes:
        base = amount_text(tax.base, digits)
        rows.append(["tax", str(tax.rate), base, EQUAL, amount_text(tax.tax, digits)])
    rows.append(["total", amount_text(document.total, digits)])
    return rows


def amount_text(units, digits):
    if digits == 0:
        return str(units)
    written = str(units).zfill(digits + 1)
    return written[:-digits] + POINT + written[-digits:]
