"""Rings of columns that two rows of a square have, and the rows exchanged along one of them."""


def ring_from(square, one, other, column):
    ring = []
    here = column
    while here not in ring:
        ring.append(here)
        here = square[one].index(square[other][here])
    return ring


def rings(square, one, other):
    found = []
    passed = []
    # By rising columns: so each ring is come to first at its least one.
    for column in range(len(square)):
        if column not in passed:
            ring = ring_from(square, one, other, column)
            found.append(ring)
            passed.extend(ring)
    return found


def taken_over(line, given, ring):
    return tuple([given[column] if column in ring else line[column] for column in range(len(line))])


def exchanged(square, one, other, column):
    ring = ring_from(square, one, other, column)
    changed = list(square)
    changed[one] = taken_over(square[one], square[other], ring)
    changed[other] = taken_over(square[other], square[one], ring)
    return tuple(changed)
