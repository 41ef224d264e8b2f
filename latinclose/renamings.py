"""Renamings of rows, columns and things: done, one behind another, and undone."""


def still(n):
    turn = tuple(range(n))
    return (turn, turn, turn)


def turn_behind(one, other):
    return tuple([other[number] for number in one])


def behind(one, other):
    return tuple([turn_behind(first, second) for first, second in zip(one, other)])


def turn_undone(turn):
    return tuple([turn.index(number) for number in range(len(turn))])


def undone(renaming):
    return tuple([turn_undone(turn) for turn in renaming])


def entry_renamed(entry, things):
    return None if entry is None else things[entry]


def renamed(begun, renaming):
    # A row or column is told by where it goes; to build the new rows in order one asks where each comes from.
    sources = undone(renaming)
    told = []
    for row in sources[0]:
        told.append(tuple([entry_renamed(begun[row][column], renaming[2]) for column in sources[1]]))
    return tuple(told)
