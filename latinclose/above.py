"""Rows from above, and single rows of a begun square filled."""

from latinclose.lines import column_of, columns_of, lacked, places_left
from latinclose.pairings import lacking, paired


def further(n, rows):
    # Each column lacks as many things as each thing is lacking in columns: so there always is a pairing.
    return tuple(paired([lacked(column_of(rows, column), n) for column in range(n)]))


def closed_from(n, rows):
    grown = list(rows)
    while len(grown) < n:
        grown.append(further(n, grown))
    return tuple(grown)


def row_things(begun, row):
    return lacked(begun[row], len(begun))


def row_places(begun, row):
    crossing = columns_of(begun)
    return [places_left(begun[row], crossing, thing) for thing in row_things(begun, row)]


def row_filled(begun, row):
    picked = paired(row_places(begun, row))
    if picked is None:
        return None
    filled = list(begun[row])
    for thing, column in zip(row_things(begun, row), picked):
        filled[column] = thing
    return begun[:row] + (tuple(filled),) + begun[row + 1:]


def row_lacking(begun, row):
    paper = lacking(row_places(begun, row))
    if paper is None:
        return None
    things = row_things(begun, row)
    return [things[which] for which in paper]
