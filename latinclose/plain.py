"""The plain form of a square: of all that it can be renamed to the one that is ahead of the others."""

from latinclose.renamings import renamed, still, turn_undone
from latinclose.rings import rings


def lengths_of(circles):
    return sorted([len(circle) for circle in circles])


def walks(circles):
    if not circles:
        return [[]]
    shortest = min([len(circle) for circle in circles])
    found = []
    for place, circle in enumerate(circles):
        if len(circle) == shortest:
            onward = walks(circles[:place] + circles[place + 1:])
            for start in range(shortest):
                found.extend([circle[start:] + circle[:start] + walk for walk in onward])
    return found


def two_rows(size):
    found = []
    for one in range(size):
        found.extend([(one, other) for other in range(size) if other != one])
    return found


def renaming_along(square, top, walk):
    things = turn_undone([square[top][column] for column in walk])
    rows = tuple([things[line[walk[0]]] for line in square])
    return (rows, turn_undone(walk), things)


def hopeful(square):
    # What is ahead of all others has its things in order in the first row and in the first column: so a renaming
    # to it is settled by what comes first and by the order of the columns. And its second row is as low as can be
    # just where the columns go along the rings of the first two rows, shorter rings first.
    if len(square) == 1:
        return [still(1)]
    circles = [(one, rings(square, one, other)) for one, other in two_rows(len(square))]
    least = min([lengths_of(told) for top, told in circles])
    found = []
    for top, told in circles:
        if lengths_of(told) == least:
            found.extend([renaming_along(square, top, walk) for walk in walks(told)])
    return found


def leading(square):
    told = [(renamed(square, renaming), renaming) for renaming in hopeful(square)]
    form = min([one for one, renaming in told])
    # No renaming that leads to the plain form is left out here: all of them are hopeful ones.
    return (form, [renaming for one, renaming in told if one == form])


def plain(square):
    told = leading(square)
    return (told[0], told[1][0])
