"""Choices of a begun square, each with what is left for it, and one of these put."""

from latinclose.begun import left, with_entry
from latinclose.lines import columns_of, lacked, places_left


def cell_choices(begun):
    found = []
    for row in range(len(begun)):
        for column in range(len(begun)):
            if begun[row][column] is None:
                found.append((("cell", row, column), left(begun, row, column)))
    return found


def line_choices(name, lines, crossing):
    found = []
    for which in range(len(lines)):
        for thing in lacked(lines[which], len(lines)):
            found.append(((name, which, thing), places_left(lines[which], crossing, thing)))
    return found


def all_choices(begun):
    columns = columns_of(begun)
    return cell_choices(begun) + line_choices("row", begun, columns) + line_choices("column", columns, begun)


def first_choice(begun):
    # Of as many left min keeps the earliest one, and all_choices has them in the order in which they go ahead.
    return min(all_choices(begun), key=lambda told: len(told[1]))


def with_chosen(begun, choice, number):
    if choice[0] == "cell":
        return with_entry(begun, choice[1], choice[2], number)
    if choice[0] == "row":
        return with_entry(begun, choice[1], number, choice[2])
    return with_entry(begun, number, choice[1], choice[2])
