"""All closings of a begun square, and how many squares of a size there are."""

from latinclose.begun import is_whole
from latinclose.choices import first_choice, with_chosen
from latinclose.errors import TooGreat, TooMany

# Kept, not counted: of size 5 there are too many to go through at each asking.
SQUARES_OF_SIZE = {1: 1, 2: 2, 3: 12, 4: 576, 5: 161280}


def with_each_chosen(begun):
    first = first_choice(begun)
    return [with_chosen(begun, first[0], number) for number in first[1]]


def closings(begun, most=300):
    found = []
    waiting = [begun]
    # Two cases of one choice have no closing in common: so each closing is come to once.
    while len(waiting) > 0 and len(found) <= most:
        looked_at = waiting.pop()
        if is_whole(looked_at):
            found.append(looked_at)
        else:
            waiting.extend(with_each_chosen(looked_at))
    if len(found) > most:
        raise TooMany(most)
    return sorted(found)


def how_many(n):
    if n not in SQUARES_OF_SIZE:
        raise TooGreat()
    return SQUARES_OF_SIZE[n]
