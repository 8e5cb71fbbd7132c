"""What the tests share: asking calls by their names, and reckoning amounts a second way."""

from fractions import Fraction
from math import floor

from paperschain.filed import answers

CALLS = {"read": 0, "check": 1, "print": 2, "file": 3, "doc": 4, "lines": 5, "taxes": 6, "open": 7, "chain": 8}
LEAST = -1000000000000000000
MOST = 1000000000000000000


def bytes_of(written):
    return list(written.encode("latin-1"))


def text_of(numbers):
    return bytes(numbers).decode("latin-1")


def flat(calls):
    """The list of numbers for calls such as ("read", "money EUR 2") or ("doc", 1)."""
    row = []
    for name, *parts in calls:
        row.append(CALLS[name])
        for part in parts:
            if isinstance(part, int):
                row.append(part)
            else:
                numbers = bytes_of(part) if isinstance(part, str) else list(part)
                row += [len(numbers)] + numbers
    return row


def split(given):
    """The answers, a list each."""
    found = []
    place = 0
    while place < len(given):
        count = given[place]
        found.append(given[place + 1:place + 1 + count])
        place += 1 + count
    return found


def ask(*calls):
    return split(answers(flat(calls)))


def ask_last(*calls):
    return ask(*calls)[-1]


def wrong_place(written, behind=""):
    """What check tells of the text, read behind another that must be right."""
    first, second = ask(("read", behind), ("check", written))
    assert first[0] == 0, first
    assert len(second) == 4 and second[0] == 0, second
    return tuple(second[1:])


def questions(documents):
    """Every question that shows what is filed."""
    calls = [("file",)]
    for n in range(1, documents + 1):
        calls += [(name, n) for name in ("print", "doc", "lines", "taxes", "open", "chain")]
    return calls


def nearest(fraction):
    return floor(fraction + Fraction(1, 2))


def shares(whole, weights):
    together = sum(weights)
    if not together:
        return [0] * len(weights)
    exact = [Fraction(whole * weight, together) for weight in weights]
    parts = [floor(share) for share in exact]
    rests = [share - part for share, part in zip(exact, parts)]
    while sum(parts) < whole:
        k = rests.index(max(rests))
        parts[k] += 1
        rests[k] = Fraction(-1)
    return parts


def written_amount(units, digits):
    if not digits:
        return str(units)
    return f"{units // 10 ** digits}.{units % 10 ** digits:0{digits}d}"


class Invoice:
    """An invoice of one delivery of a whole order, with what has been credited of it, reckoned with fractions."""

    def __init__(self, order, discount, digits):
        # order: (quantity, price, rate) for each line
        self.order = order
        self.discount = discount
        self.digits = digits
        self.amounts = [quantity * price for quantity, price, rate in order]
        self.nets = [a - s for a, s in zip(self.amounts, shares(discount, self.amounts))]
        self.rates = sorted({rate for quantity, price, rate in order})
        self.taxes = [(rate, self.base(rate), self.tax_of(rate, self.base(rate))) for rate in self.rates]
        self.total = sum(base + tax for rate, base, tax in self.taxes)
        self.credited = [0] * len(order)
        self.credited_bases = {rate: 0 for rate in self.rates}

    def base(self, rate):
        return sum(net for net, line in zip(self.nets, self.order) if line[2] == rate)

    def tax_of(self, rate, base):
        return nearest(Fraction(base * rate, 10000))

    def credit(self, quantities):
        """The (line, quantity, amount), the taxes and the total of a further credit note."""
        lines = []
        bases = {}
        for k, quantity in enumerate(quantities):
            if quantity:
                whole, price, rate = self.order[k]
                before = self.credited[k]
                amount = (nearest(Fraction(self.nets[k] * (before + quantity), whole))
                          - nearest(Fraction(self.nets[k] * before, whole)))
                lines.append((k + 1, quantity, amount))
                bases[rate] = bases.get(rate, 0) + amount
                self.credited[k] += quantity
        taxes = []
        for rate in sorted(bases):
            before = self.credited_bases[rate]
            after = before + bases[rate]
            taxes.append((rate, bases[rate], self.tax_of(rate, after) - self.tax_of(rate, before)))
            self.credited_bases[rate] = after
        return lines, taxes, sum(base + tax for rate, base, tax in taxes)

    def written(self, units):
        return written_amount(units, self.digits)

    def order_text(self):
        rows = [f"money EUR {self.digits}", "order O1 coin EUR day 3"]
        for k, (quantity, price, rate) in enumerate(self.order):
            rows.append(f"line item{k} {quantity} at {self.written(price)} rate {rate}")
        rows += ["end", "delivery D1 coin EUR day 3 refers O1"]
        rows += [f"line {k + 1} {line[0]}" for k, line in enumerate(self.order)]
        return "\n".join(rows + ["end", ""])

    def closing_text(self, lines, discount, taxes, total):
        rows = [f"line {number} {quantity} = {self.written(amount)}" for number, quantity, amount in lines]
        if discount:
            rows.append(f"less {self.written(discount)}")
        rows += [f"tax {rate} {self.written(base)} = {self.written(tax)}" for rate, base, tax in taxes]
        return "\n".join(rows + [f"total {self.written(total)}", "end", ""])

    def invoice_text(self):
        lines = [(k + 1, line[0], amount) for k, (line, amount) in enumerate(zip(self.order, self.amounts))]
        heading = "invoice I1 coin EUR day 4 refers D1\n"
        return heading + self.closing_text(lines, self.discount, self.taxes, self.total)

    def credit_text(self, number, credit):
        lines, taxes, total = credit
        heading = f"credit C{number} coin EUR day 5 refers I1\n"
        return heading + self.closing_text(lines, 0, taxes, total)
