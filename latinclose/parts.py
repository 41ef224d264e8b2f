"""Parts of a square, which stand by themselves, and other squares put in them."""

from latinclose.begun import with_entry
from latinclose.errors import NoPart, NoSquare


def rising_picks(size, many):
    if many == 0:
        return [()]
    found = []
    # The lesser picks are in order, and each is gone on with by rising numbers: so these are in order too.
    for pick in rising_picks(size, many - 1):
        least = max(pick, default=-1) + 1
        found.extend([pick + (number,) for number in range(least, size)])
    return found


def things_in(square, rows, columns):
    found = []
    for row in rows:
        found.extend([square[row][column] for column in columns])
    return sorted(set(found))


def parts(square):
    size = len(square)
    found = []
    # No part has more than half of the rows: a row beside it has the part's things outside its columns.
    for many in range(2, size // 2 + 1):
        picks = rising_picks(size, many)
        for rows in picks:
            fitting = [columns for columns in picks if len(things_in(square, rows, columns)) == many]
            found.extend([(rows, columns) for columns in fitting])
    return found


def is_pick(numbers, size):
    return list(numbers) == [number for number in range(size) if number in numbers]


def is_part(square, rows, columns):
    size = len(square)
    if len(rows) != len(columns) or not 2 <= len(rows) < size:
        return False
    if not is_pick(rows, size) or not is_pick(columns, size):
        return False
    return len(things_in(square, rows, columns)) == len(rows)


def put_in(square, rows, columns, inner):
    if not is_part(square, rows, columns):
        raise NoPart()
    if len(inner) != len(rows):
        raise NoSquare()
    things = things_in(square, rows, columns)
    changed = square
    for row, numbers in zip(rows, inner):
        for column, number in zip(columns, numbers):
            changed = with_entry(changed, row, column, things[number])
    return changed
