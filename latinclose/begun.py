"""Begun squares: looked over, and things put in their empty cells."""

from latinclose.errors import NoCell, NoSquare, NoThing, Twice

GREATEST_SIZE = 6


def is_entry(thing, size):
    if thing is None:
        return True
    # Python counts True and False as ints; here they are no whole numbers.
    return isinstance(thing, int) and not isinstance(thing, bool) and 0 <= thing < size


def is_row(thing, size):
    return isinstance(thing, tuple) and len(thing) == size and all([is_entry(entry, size) for entry in thing])


def has_form(thing):
    if not isinstance(thing, tuple):
        return False
    size = len(thing)
    return 1 <= size <= GREATEST_SIZE and all([is_row(row, size) for row in thing])


def came_earlier(begun, row, column):
    thing = begun[row][column]
    if thing is None:
        return False
    return thing in begun[row][:column] or thing in [above[column] for above in begun[:row]]


def check(thing):
    if not has_form(thing):
        raise NoSquare()
    for row in range(len(thing)):
        for column in range(len(thing)):
            if came_earlier(thing, row, column):
                raise Twice((row, column))


def is_whole(begun):
    return all([None not in row for row in begun])


def left(begun, row, column):
    standing = list(begun[row]) + [other[column] for other in begun]
    return [thing for thing in range(len(begun)) if thing not in standing]


def with_entry(begun, row, column, entry):
    changed = begun[row][:column] + (entry,) + begun[row][column + 1:]
    return begun[:row] + (changed,) + begun[row + 1:]


def put(begun, row, column, thing):
    if begun[row][column] is not None:
        raise NoCell()
    if thing not in left(begun, row, column):
        raise NoThing()
    return with_entry(begun, row, column, thing)
