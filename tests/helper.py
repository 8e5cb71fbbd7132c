"""What the tests share: asking calls by their names, and reckoning amounts a second way."""

from fractions import Fraction
from math import floor

from paperschain.filed import answers

CALLS = {
    "read": 0, "check": 1, "print": 2, "file": 3, "doc": 4, "lines": 5, "taxes": 6, "open": 7, "chain": 8, "spread": 9,
    "left": 10, "sums": 11, "bill": 12, "note": 13, "find": 14, "clear": 15, "counts": 16,
}
MOST_CALLS = 60
MOST_NUMBERS = 17000
LEAST = -1000000000000000000
MOST = 1000000000000000000

# the documents 1 to 8: O1, D1, O2, I1, D2, C1, I2, C20
STORY = """
  money EUR 2
order O1 coin EUR day 10
   line bolt 10 at 1.05 rate 1900
   line nut 20 at 0.33 rate 700
   line gift 5 at 0.00 rate 700
end
money JPY 0

delivery D1 coin EUR day 12 refers O1
  line 1 6
  line  3   5
end
order O2 coin JPY day 11
  line tea 3 at 1000000 rate 0
end
invoice I1 coin EUR day 14 refers D1
  line 1 4 = 4.20
  line 3 2 = 0.00
  less 0.21
  tax 700 0.00 = 0.00
  tax 1900 3.99 = 0.76
  total 4.75
end
delivery D2 coin EUR day 13 refers O1
  line 2 8
end
credit C1 coin EUR day 16 refers I1
  line 1 1 = 1.00
  tax 1900 1.00 = 0.19
  total 1.19
end
invoice I2 coin EUR day 12 refers D1
  line 1 2 = 2.10
  tax 1900 2.10 = 0.40
  total 2.50
end
credit C20 coin EUR day 16 refers I1
  line 1 2 = 1.99
  line 3 2 = 0.00
  tax 700 0.00 = 0.00
  tax 1900 1.99 = 0.38
  total 2.37
end"""


def bytes_of(written):
    return list(written.encode("latin-1"))


def text_of(numbers):
    return bytes(numbers).decode("latin-1")


def flat(calls):
    """The list of numbers for calls such as ("read", "money EUR 2") or ("doc", 1)."""
    calls = list(calls)
    assert 1 <= len(calls) <= MOST_CALLS, len(calls)
    row = []
    for name, *parts in calls:
        row.append(CALLS[name])
        for part in parts:
            if isinstance(part, int):
                row.append(part)
            else:
                numbers = bytes_of(part) if isinstance(part, str) else list(part)
                row += [len(numbers)] + numbers
    assert len(row) <= MOST_NUMBERS, len(row)
    return row


def split(given):
    """The answers, a list each."""
    found = []
    place = 0
    while place < len(given):
        count = given[place]
        found.append(given[place + 1:place + 1 + count])
        place += 1 + count
    return found


def ask(*calls):
    return split(answers(flat(calls)))


def ask_last(*calls):
    return ask(*calls)[-1]


def of_story(*call):
    return ask_last(("read", STORY), call)


def wrong_place(written, behind=""):
    """What check tells of the text, read behind another that must be right."""
    first, second = ask(("read", behind), ("check", written))
    assert first[0] == 0, first
    assert len(second) == 4 and second[0] == 0, second
    return tuple(second[1:])


def questions(documents):
    """Every question that shows what is filed."""
    calls = [("file",)]
    for n in range(1, documents + 1):
        calls += [(name, n) for name in ("print", "doc", "lines", "taxes", "open", "chain")]
    return calls


def further_questions(documents):
    """What the calls 9 to 16 answer of what is filed, but for clear."""
    calls = [("counts",)] + [("sums", coin) for coin in range(6)]
    calls += [("find", name) for name in ("O1", "D1", "I1", "C1", "C20", "x", "")]
    for n in range(1, documents + 1):
        calls += [("spread", n), ("left", n)]
        for row in ((1,), (0, 1, 2), (0, 0, 1), (1, 1, 1, 1, 1, 1, 1, 1), ()):
            calls += [("bill", n, 0, row), ("bill", n, 1, row), ("note", n, row)]
    return calls


def ask_behind(texts, asked):
    """The answers to however many questions behind these texts, in as many lines of calls as they need."""
    reads = [("read", text) for text in texts]
    room = MOST_CALLS - len(reads)
    given = []
    for start in range(0, len(asked), room):
        answered = ask(*reads, *asked[start:start + room])
        assert [-5] not in answered[:len(reads)], answered[:len(reads)]
        given += answered[len(reads):]
    return given


def draft_parts(answer):
    """The total, lines and taxes that bill or note told."""
    assert answer[0] == 0, answer
    lines_end = 3 + 3 * answer[2]
    taxes_end = lines_end + 1 + 3 * answer[lines_end]
    assert len(answer) == taxes_end, answer
    return answer[1], triples(answer[3:lines_end]), triples(answer[lines_end + 1:])


def triples(numbers):
    return [tuple(numbers[k:k + 3]) for k in range(0, len(numbers), 3)]


def nearest(fraction):
    return floor(fraction + Fraction(1, 2))


def shares(whole, weights):
    together = sum(weights)
    if not together:
        return [0] * len(weights)
    exact = [Fraction(whole * weight, together) for weight in weights]
    parts = [floor(share) for share in exact]
    rests = [share - part for share, part in zip(exact, parts)]
    while sum(parts) < whole:
        k = rests.index(max(rests))
        parts[k] += 1
        rests[k] = Fraction(-1)
    return parts


def written_amount(units, digits):
    if not digits:
        return str(units)
    return f"{units // 10 ** digits}.{units % 10 ** digits:0{digits}d}"


def spread(nets, rates, taxes):
    """What spread tells: lines of other rates weigh nothing, so they get no share."""
    shared = [0] * len(nets)
    for rate, base, tax in taxes:
        weights = [net if of_line == rate else 0 for net, of_line in zip(nets, rates)]
        shared = [before + share for before, share in zip(shared, shares(tax, weights))]
    return [number for net, tax in zip(nets, shared) for number in (net, tax, net + tax)]


class Invoice:
    """An invoice, with what has been credited of it, reckoned with fractions."""

    def __init__(self, order, discount, digits, numbers=None):
        # order: (quantity, price, rate) for each line; numbers: those of the order's lines
        self.order = order
        self.numbers = numbers or list(range(1, len(order) + 1))
        self.discount = discount
        self.digits = digits
        self.amounts = [quantity * price for quantity, price, rate in order]
        self.nets = [a - s for a, s in zip(self.amounts, shares(discount, self.amounts))]
        self.rates = sorted({rate for quantity, price, rate in order})
        self.taxes = [(rate, self.base(rate), self.tax_of(rate, self.base(rate))) for rate in self.rates]
        self.total = sum(base + tax for rate, base, tax in self.taxes)
        self.credited = [0] * len(order)
        self.credited_bases = {rate: 0 for rate in self.rates}

    def base(self, rate):
        return sum(net for net, line in zip(self.nets, self.order) if line[2] == rate)

    def lines(self):
        return [(number, line[0], amount) for number, line, amount in zip(self.numbers, self.order, self.amounts)]

    def tax_of(self, rate, base):
        return nearest(Fraction(base * rate, 10000))

    def credit(self, quantities):
        """The (line, quantity, amount), the taxes and the total of a further credit note, line by line of its own."""
        lines = []
        bases = {}
        for k, quantity in enumerate(quantities):
            if quantity:
                whole, price, rate = self.order[k]
                before = self.credited[k]
                amount = (nearest(Fraction(self.nets[k] * (before + quantity), whole))
                          - nearest(Fraction(self.nets[k] * before, whole)))
                lines.append((self.numbers[k], quantity, amount))
                bases[rate] = bases.get(rate, 0) + amount
                self.credited[k] += quantity
        taxes = []
        for rate in sorted(bases):
            before = self.credited_bases[rate]
            after = before + bases[rate]
            taxes.append((rate, bases[rate], self.tax_of(rate, after) - self.tax_of(rate, before)))
            self.credited_bases[rate] = after
        return lines, taxes, sum(base + tax for rate, base, tax in taxes)

    def written(self, units):
        return written_amount(units, self.digits)

    def order_text(self):
        rows = [f"money EUR {self.digits}", "order O1 coin EUR day 3"]
        for k, (quantity, price, rate) in enumerate(self.order):
            rows.append(f"line item{k} {quantity} at {self.written(price)} rate {rate}")
        rows += ["end", "delivery D1 coin EUR day 3 refers O1"]
        rows += [f"line {k + 1} {line[0]}" for k, line in enumerate(self.order)]
        return "\n".join(rows + ["end", ""])

    def closing_text(self, lines, discount, taxes, total):
        rows = [f"line {number} {quantity} = {self.written(amount)}" for number, quantity, amount in lines]
        if discount:
            rows.append(f"less {self.written(discount)}")
        rows += [f"tax {rate} {self.written(base)} = {self.written(tax)}" for rate, base, tax in taxes]
        return "\n".join(rows + [f"total {self.written(total)}", "end", ""])

    def invoice_text(self):
        heading = "invoice I1 coin EUR day 4 refers D1\n"
        return heading + self.closing_text(self.lines(), self.discount, self.taxes, self.total)

    def credit_text(self, number, credit):
        lines, taxes, total = credit
        heading = f"credit C{number} coin EUR day 5 refers I1\n"
        return heading + self.closing_text(lines, 0, taxes, total)
