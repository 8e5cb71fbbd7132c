"""The interface: a list of calls on one new object, and their answers."""

from paperschain.archive import Archive
from paperschain.calls import answer_call


# the list of calls isn't copied or changed: only the position in it moves
class Asked:
    def __init__(self, calls):
        self.calls = calls
        self.position = 0

    def has_more(self):
        return self.position < len(self.calls)

    def next_number(self):
        self.position += 1
        return self.calls[self.position - 1]

    def next_row(self):
        length = self.next_number()
        self.position += length
        return self.calls[self.position - length:self.position]


def answers(calls):
    archive = Archive([], [])
    asked = Asked(calls)
    told = []
    while asked.has_more():
        answer = answer_call(archive, asked)
        told.append(len(answer))
        told.extend(answer)
    return told
