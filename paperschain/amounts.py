"""What amounts, taxes and totals have to be."""

from paperschain.archive import CREDIT, INVOICE, Tax, followers, line_of, quantity_taken
from paperschain.rounding import nearest, shares

WHOLE_RATE = 10000


def line_amount(archive, document, line_number, quantity):
    if document.kind == INVOICE:
        return quantity * line_of(archive.document_at(document.order), line_number).price
    if document.kind == CREDIT:
        return credit_amount(archive, document.refers, line_number, quantity)
    return 0


# rounding all that is credited by now, not each part, makes the parts together just the net
def credit_amount(archive, invoice_number, line_number, quantity):
    invoice = archive.document_at(invoice_number)
    invoiced = line_of(invoice, line_number).quantity
    net = net_of_line(invoice, line_number)
    before = quantity_taken(archive, invoice_number, line_number)
    return nearest(net * (before + quantity), invoiced) - nearest(net * before, invoiced)


# a credit note has no discount, so its nets are its amounts
def nets(document):
    amounts = [line.amount for line in document.lines]
    discounts = shares(document.discount, amounts)
    return [amount - discount for amount, discount in zip(amounts, discounts)]


def net_of_line(document, line_number):
    numbers = [line.number for line in document.lines]
    return nets(document)[numbers.index(line_number)]


def amounts_together(document):
    return sum([line.amount for line in document.lines])


# rates stand in the order alone
def rates_of_lines(archive, document):
    order = archive.document_at(document.order)
    return [line_of(order, line.number).rate for line in document.lines]


# a dict keeps the order in which keys came: the least rate is first
def bases(archive, document):
    rates = rates_of_lines(archive, document)
    found = {}
    for rate in sorted(set(rates)):
        found[rate] = 0
    for rate, net in zip(rates, nets(document)):
        found[rate] += net
    return found


def base_credited(archive, invoice_number, rate):
    together = 0
    for follower in followers(archive, invoice_number):
        for tax in archive.document_at(follower).taxes:
            if tax.rate == rate:
                together += tax.base
    return together


# as with amounts, all that is credited by now is rounded, so that the taxes together are just the invoice's
def tax_amount(archive, document, rate, base):
    before = 0
    if document.kind == CREDIT:
        before = base_credited(archive, document.refers, rate)
    return nearest((before + base) * rate, WHOLE_RATE) - nearest(before * rate, WHOLE_RATE)


# taxes and total hang on all lines and the discount, so these must be there
def settle(archive, document):
    document.taxes = []
    document.total = 0
    for rate, base in bases(archive, document).items():
        tax = tax_amount(archive, document, rate, base)
        document.taxes.append(Tax(rate, base, tax))
        document.total += base + tax


# by line; of a rate's tax only the lines of this rate have a share
def tax_shares(archive, document):
    rates = rates_of_lines(archive, document)
    weights = nets(document)
    shared = [0 for rate in rates]
    for tax in document.taxes:
        places = [k for k, rate in enumerate(rates) if rate == tax.rate]
        for k, share in zip(places, shares(tax.tax, [weights[k] for k in places])):
            shared[k] = share
    return shared
