"""What documents come to together."""

from paperschain.archive import CREDIT, KIND_WORDS, Tax, followers


def total_left(archive, number):
    credited = [archive.document_at(follower).total for follower in followers(archive, number)]
    return archive.document_at(number).total - sum(credited)


# the least rate first; orders and deliveries have no taxes, so they needn't be left out
def sums_of_coin(archive, coin):
    found = {}
    for document in archive.documents:
        if document.coin == coin:
            sign = -1 if document.kind == CREDIT else 1
            for tax in document.taxes:
                together = found.setdefault(tax.rate, Tax(tax.rate, 0, 0))
                together.base += sign * tax.base
                together.tax += sign * tax.tax
    return [found[rate] for rate in sorted(found)]


def counts_of_kinds(archive):
    counts = [0 for word in KIND_WORDS]
    for document in archive.documents:
        counts[document.kind] += 1
    return counts
