"""Roles: the rows, columns and things of a square take each other's places."""


def entries_of(square):
    found = []
    for row, line in enumerate(square):
        found.extend([(row, column, thing) for column, thing in enumerate(line)])
    return found


def turned(square, roles):
    lines = [list(line) for line in square]
    # Each cell is come to just once, since two of an entry's three numbers tell the third one.
    for entry in entries_of(square):
        lines[entry[roles[0]]][entry[roles[1]]] = entry[roles[2]]
    return tuple([tuple(line) for line in lines])
