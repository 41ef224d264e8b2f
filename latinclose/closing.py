"""A begun square told closed, or with a book of cases of which none closes."""

from latinclose.begun import is_whole
from latinclose.choices import first_choice, with_chosen
from latinclose.errors import TooMany


class Looks:
    def __init__(self, most):
        self.most = most
        self.looked_at = 0

    def look(self):
        self.looked_at = self.looked_at + 1
        if self.looked_at > self.most:
            raise TooMany(self.most)


def gone_through(begun, looks):
    looks.look()
    if is_whole(begun):
        return ("closed", begun)
    first = first_choice(begun)
    choice = first[0]
    cases = []
    for number in first[1]:
        told = gone_through(with_chosen(begun, choice, number), looks)
        if told[0] == "closed":
            return told
        cases.append((number, told[1]))
    return ("cases", (choice, cases))


def closed(begun, most=300):
    return gone_through(begun, Looks(most))
