"""What is filed: coins and documents."""

ORDER = 0
DELIVERY = 1
INVOICE = 2
CREDIT = 3
KIND_WORDS = ("order", "delivery", "invoice", "credit")

MOST_COINS = 4
MOST_DOCUMENTS = 40
MOST_LINES = 8
MOST_QUANTITY = 10000
MOST_UNITS = 1000000000000


class Coin:
    def __init__(self, name, digits):
        self.name = name
        self.digits = digits


class OrderLine:
    def __init__(self, number, item, quantity, price, rate):
        self.number = number
        self.item = item
        self.quantity = quantity
        self.price = price
        self.rate = rate


# of another document than an order; its number is that of the order's line
class Line:
    def __init__(self, number, quantity, amount):
        self.number = number
        self.quantity = quantity
        self.amount = amount


class Tax:
    def __init__(self, rate, base, tax):
        self.rate = rate
        self.base = base
        self.tax = tax


# nothing of it changes once it is filed, so that archives can share it
class Document:
    def __init__(self, kind, name, coin, day):
        self.kind = kind
        self.name = name
        self.coin = coin
        self.day = day
        self.refers = 0
        self.order = 0
        self.lines = []
        self.discount = 0
        self.taxes = []
        self.total = 0


class Archive:
    def __init__(self, coins, documents):
        self.coins = coins
        self.documents = documents

    # what is filed into the copy must not show here, as the text may still be wrong
    def copy(self):
        return Archive(list(self.coins), list(self.documents))

    def adopt(self, other):
        self.coins = list(other.coins)
        self.documents = list(other.documents)

    def coin_at(self, number):
        return self.coins[number - 1]

    def document_at(self, number):
        return self.documents[number - 1]

    def coin_number(self, name):
        return number_of_name(self.coins, name)

    def document_number(self, name):
        return number_of_name(self.documents, name)


# 0 if there is none, as numbers begin with 1
def number_of_name(named, name):
    for number, one in enumerate(named, start=1):
        if one.name == name:
            return number
    return 0


def followers(archive, number):
    return [k for k, document in enumerate(archive.documents, start=1) if document.refers == number]


# None if the document has no line for this line of the order
def line_of(document, line_number):
    for line in document.lines:
        if line.number == line_number:
            return line
    return None


def quantity_taken(archive, number, line_number):
    taken = 0
    for follower in followers(archive, number):
        line = line_of(archive.document_at(follower), line_number)
        if line is not None:
            taken += line.quantity
    return taken


def quantity_left(archive, number, line):
    return line.quantity - quantity_taken(archive, number, line.number)
