"""Squares and begun squares for the tests, and plain ways to find what is asked of them."""

import functools
import itertools


def cyclic(size):
    return tuple(tuple((row + column) % size for column in range(size)) for row in range(size))


def empty(size):
    return ((None,) * size,) * size


def replaced(begun, row, column, entry):
    rows = [list(line) for line in begun]
    rows[row][column] = entry
    return tuple(tuple(line) for line in rows)


def cells_of(size):
    return list(itertools.product(range(size), repeat=2))


def is_begun(begun):
    """Whether it is a tuple of tuples in which no thing comes twice in a row or a column."""
    size = len(begun)
    if not isinstance(begun, tuple) or not all(isinstance(row, tuple) and len(row) == size for row in begun):
        return False
    for line in list(begun) + list(zip(*begun)):
        things = [thing for thing in line if thing is not None]
        if len(set(things)) < len(things) or not set(things) <= set(range(size)):
            return False
    return True


def is_square(square):
    return is_begun(square) and all(None not in row for row in square)


def keeps(begun, other):
    """Whether all that stands in the one stands in the other too."""
    pairs = [pair for one, two in zip(begun, other) for pair in zip(one, two)]
    return len(begun) == len(other) and all(thing is None or thing == told for thing, told in pairs)


def fitting(begun, row, begin=()):
    """All whole rows that could stand in this one's place, in order: they keep what stands in it and in the columns."""
    column = len(begin)
    if column == len(begun):
        yield begin
        return
    entry = begun[row][column]
    for thing in range(len(begun)) if entry is None else (entry,):
        standing = [line[column] for line in begun] + list(begun[row]) if entry is None else []
        if thing not in begin and thing not in standing:
            yield from fitting(begun, row, begin + (thing,))


def plain_closings(begun, row=0):
    """All closings, row by row, each row in order: so they come in their order."""
    if row == len(begun):
        yield begun
        return
    for things in fitting(begun, row):
        yield from plain_closings(begun[:row] + (things,) + begun[row + 1:], row + 1)


@functools.cache
def all_squares(size):
    return tuple(plain_closings(empty(size)))


class Numbers:
    """The same row of numbers each time, so that the tests hang on no chance."""

    def __init__(self, state):
        self.state = state

    def below(self, bound):
        self.state = (self.state * 48271) % 2147483647
        return self.state // 64 % bound

    def mixed(self, things):
        rest = list(things)
        mixed = []
        while rest:
            mixed.append(rest.pop(self.below(len(rest))))
        return mixed

    def square(self, size):
        """Rows of a square that is built thing by thing, so not cyclic ones alone."""
        square = None
        while square is None:
            square = self.tried_square(size)
        return square

    def tried_square(self, size):
        rows = []
        while len(rows) < size:
            begun = tuple(rows) + empty(size)[len(rows):]
            choices = list(fitting(begun, len(rows)))
            if not choices:
                return None
            rows.append(choices[self.below(len(choices))])
        return tuple(rows)

    def emptied(self, square, many):
        """A begun square that has a closing: the square without some of its things."""
        for row, column in self.mixed(cells_of(len(square)))[:many]:
            square = replaced(square, row, column, None)
        return square

    def scattered(self, size, many):
        """A begun square of things put anywhere: often it has no closing."""
        begun = empty(size)
        for row, column in self.mixed(cells_of(size))[:many]:
            free = [thing for thing in range(size) if is_begun(replaced(begun, row, column, thing))]
            if free:
                begun = replaced(begun, row, column, free[self.below(len(free))])
        return begun

    def blocked(self, size):
        """A begun square without a closing: a square of more than half its size stands in it, strewn about."""
        inner = size // 2 + 1 + self.below(size - size // 2 - 1)
        rows = self.mixed(range(size))
        columns = self.mixed(range(size))
        things = self.mixed(range(size))
        begun = empty(size)
        for row, column in cells_of(inner):
            begun = replaced(begun, rows[row], columns[column], things[(row + column) % inner])
        return begun


# Through these there are many ways: the first ones have no closing, the last ones have some.
WINDING = (
    ((None, None, None, 0), (None, None, 3, None), (None, 0, None, 2), (1, None, None, None)),
    (
        (None, None, None, None, 3, 1), (None, None, 5, None, 2, None), (None, 2, None, None, 4, None),
        (None, 0, 4, 2, None, 3), (None, None, None, 1, 0, None), (None, 1, None, 4, None, 2),
    ),
    (
        (2, 4, 3, 5, None, None), (3, 0, 1, 2, None, None), (1, 2, 4, 0, None, None),
        (4, 1, 0, 3, None, None), (None, None, None, None, None, None), (None, None, None, None, None, None),
    ),
    (
        (None, None, None, 4, 1, None), (None, None, None, 3, None, None), (None, None, 0, None, 4, None),
        (None, 0, 1, None, None, None), (0, 2, None, None, None, None), (None, 4, None, None, None, None),
    ),
    (
        (4, None, None, None, None, 3), (5, 1, None, None, None, 4), (3, None, 2, None, None, 1),
        (1, 5, 4, None, None, 0), (None, None, None, None, 4, None), (None, None, None, None, None, None),
    ),
    (
        (None, None, None, 1, None, None), (None, None, 3, None, 1, None), (2, None, None, None, None, None),
        (None, None, 0, 3, None, None), (None, None, None, None, 5, None), (0, 5, None, 4, None, None),
    ),
)


@functools.cache
def small_begun_squares():
    """All begun squares of the sizes 1 and 2, and some of size 3."""
    found = []
    for size, step in ((1, 1), (2, 1), (3, 41)):
        fillings = itertools.product((None,) + tuple(range(size)), repeat=size * size)
        for entries in itertools.islice(fillings, 0, None, step):
            begun = tuple(entries[row * size:(row + 1) * size] for row in range(size))
            if is_begun(begun):
                found.append(begun)
    return tuple(found)


@functools.cache
def greater_begun_squares():
    """Begun squares of the sizes 3 to 6, from whole ones to empty ones, with and without closings."""
    numbers = Numbers(7)
    found = list(WINDING)
    for size in range(3, 7):
        found.append(empty(size))
        found.append(cyclic(size))
        for turn in range(30):
            found.append(numbers.emptied(numbers.square(size), numbers.below(size * size + 1)))
            found.append(numbers.scattered(size, numbers.below(size * size + 1)))
            found.append(numbers.scattered(size, size + numbers.below(size + 1)))
            if turn < 10:
                found.append(numbers.blocked(size))
    return tuple(found)


def begun_squares():
    return small_begun_squares() + greater_begun_squares()


# The turns of three things, one behind another: a table of six in which the order makes a difference.
TURNS_OF_THREE = tuple(itertools.permutations(range(3)))
TABLE_OF_TURNS = tuple(
    tuple(TURNS_OF_THREE.index(tuple(other[number] for number in one)) for other in TURNS_OF_THREE)
    for one in TURNS_OF_THREE
)

# Of size 6, with parts of three rows but none of two.
WITHOUT_PARTS_OF_TWO = (
    (2, 5, 3, 4, 0, 1), (5, 4, 0, 2, 1, 3), (0, 3, 2, 1, 4, 5), (1, 0, 5, 3, 2, 4), (4, 2, 1, 5, 3, 0),
    (3, 1, 4, 0, 5, 2),
)


def paired_table(size):
    """Of a size of 2, 4 or 8, a table with as many parts of two rows as can be."""
    return tuple(tuple(row ^ column for column in range(size)) for row in range(size))


@functools.cache
def squares():
    """Squares of the sizes 1 to 6: small ones, tables, and ones that are built at a venture."""
    numbers = Numbers(11)
    found = list(all_squares(1) + all_squares(2) + all_squares(3) + all_squares(4)[::37])
    found += [paired_table(4), TABLE_OF_TURNS, WITHOUT_PARTS_OF_TWO]
    for size in range(4, 7):
        found.append(cyclic(size))
        found += [numbers.square(size) for turn in range(12)]
    return tuple(found)


def plain_choices(begun):
    """All choices with what is left for each, by a plain look through all cells, rows and columns."""
    size = len(begun)
    fits = {
        (row, column, thing)
        for row, column, thing in itertools.product(range(size), repeat=3)
        if begun[row][column] is None and thing not in begun[row] and thing not in [line[column] for line in begun]
    }
    found = []
    for one, two in cells_of(size):
        if begun[one][two] is None:
            found.append((("cell", one, two), [thing for thing in range(size) if (one, two, thing) in fits]))
        if two not in begun[one]:
            found.append((("row", one, two), [column for column in range(size) if (one, column, two) in fits]))
        if two not in [line[one] for line in begun]:
            found.append((("column", one, two), [row for row in range(size) if (row, one, two) in fits]))
    return found


def plain_first_choice(begun):
    ranks = ("cell", "row", "column")
    return min(plain_choices(begun), key=lambda told: (len(told[1]), ranks.index(told[0][0]), told[0][1], told[0][2]))


def with_put(begun, choice, number):
    name, one, two = choice
    places = {"cell": (one, two, number), "row": (one, number, two), "column": (number, one, two)}
    return replaced(begun, *places[name])


def plain_way(begun):
    """How many begun squares are looked at until the first closing, and what is told then."""
    if is_square(begun):
        return 1, ("closed", begun)
    choice, numbers = plain_first_choice(begun)
    looked_at = 1
    cases = []
    for number in numbers:
        many, told = plain_way(with_put(begun, choice, number))
        looked_at += many
        if told[0] == "closed":
            return looked_at, told
        cases.append((number, told[1]))
    return looked_at, ("cases", (choice, cases))


def turns(size):
    return list(itertools.permutations(range(size)))


def all_renamings(size):
    return list(itertools.product(turns(size), repeat=3))


def some_renamings(size, many, state):
    numbers = Numbers(state)
    return [tuple(tuple(numbers.mixed(range(size))) for part in range(3)) for turn in range(many)]


def is_renaming(told, size):
    """Whether it is a tuple of three turns, each a tuple of whole numbers that are no truths."""
    if told.__class__ is not tuple or len(told) != 3 or not all(turn.__class__ is tuple for turn in told):
        return False
    numbers = [number for turn in told for number in turn]
    return all(number.__class__ is int for number in numbers) and all(sorted(t) == list(range(size)) for t in told)


def plain_renamed(begun, renaming):
    """Cell by cell, each entry set where the renaming sends it."""
    rows, columns, things = renaming
    told = [[None] * len(begun) for row in begun]
    for row, column in cells_of(len(begun)):
        thing = begun[row][column]
        told[rows[row]][columns[column]] = None if thing is None else things[thing]
    return tuple(tuple(line) for line in told)


def plain_turned(square, roles):
    """Each entry by itself put where the roles send it."""
    told = {}
    for row, column in cells_of(len(square)):
        entry = (row, column, square[row][column])
        told[entry[roles[0]], entry[roles[1]]] = entry[roles[2]]
    return tuple(tuple(told[row, column] for column in range(len(square))) for row in range(len(square)))


@functools.cache
def plain_form(square):
    """The least of all with any row first, the columns in any order, that row's things named in order and the rows
    in order: no other renamed one is less than the least of these."""
    best = None
    for top in square:
        for columns in turns(len(square)):
            names = {top[column]: place for place, column in enumerate(columns)}
            told = tuple(sorted(tuple(names[line[column]] for column in columns) for line in square))
            best = told if best is None or told < best else best
    return best


@functools.cache
def plain_own(square):
    """From each row that the first one may become and each turn of the columns the rest is settled."""
    found = []
    places = {line: row for row, line in enumerate(square)}
    for aim in square:
        for columns in turns(len(square)):
            things = {thing: aim[column] for thing, column in zip(square[0], columns)}
            back = [columns.index(place) for place in range(len(columns))]
            lines = [tuple(things[line[column]] for column in back) for line in square]
            if all(line in places for line in lines):
                rows = tuple(places[line] for line in lines)
                found.append((rows, columns, tuple(things[thing] for thing in range(len(square)))))
    return tuple(sorted(found))


def plain_rings(square, one, other):
    """By a look, from each column, for the next one."""
    onward = {}
    for column, onto in cells_of(len(square)):
        if square[one][onto] == square[other][column]:
            onward[column] = onto
    found = []
    for column in range(len(square)):
        ring = [column]
        while onward[ring[-1]] != column:
            ring.append(onward[ring[-1]])
        if column == min(ring):
            found.append(ring)
    return found


def plain_exchanged(square, one, other, column):
    ring = [ring for ring in plain_rings(square, one, other) if column in ring][0]
    rows = [list(line) for line in square]
    for place in ring:
        rows[one][place] = square[other][place]
        rows[other][place] = square[one][place]
    return tuple(tuple(line) for line in rows)


def wandered(square, numbers, steps):
    """The square exchanged along rings, and turned by roles now and then, so many times."""
    for step in range(steps):
        one, other = numbers.mixed(range(len(square)))[:2]
        square = plain_exchanged(square, one, other, numbers.below(len(square)))
        if numbers.below(3) == 0:
            square = plain_turned(square, TURNS_OF_THREE[numbers.below(6)])
    return square


@functools.cache
def exchanged_tables():
    """Squares of size 6: tables, which have many own renamings, and what few and many exchanges make of them."""
    numbers = Numbers(13)
    found = [cyclic(6), TABLE_OF_TURNS, WITHOUT_PARTS_OF_TWO]
    for table in (cyclic(6), TABLE_OF_TURNS):
        found += [wandered(table, numbers, steps) for steps in (1, 1, 2, 2, 3, 4, 5, 7, 9, 12)]
    return tuple(found)


# One line of six rows for each: the plain forms of all squares of size 6, in their order.
FORMS_OF_SIX = tuple(tuple(tuple(int(sign) for sign in row) for row in form.split()) for form in (
    "012345 103254 234501 325410 450123 541032",
    "012345 103254 234501 325410 450132 541023",
    "012345 103254 234501 345012 450123 521430",
    "012345 103254 234501 345120 451032 520413",
    "012345 103254 240513 351402 425031 534120",
    "012345 103254 240513 351402 425130 534021",
    "012345 103254 240513 351420 435102 524031",
    "012345 103254 240513 354021 435102 521430",
    "012345 103254 240531 351420 425103 534012",
    "012345 103254 240531 354012 425103 531420",
    "012345 103254 240531 354012 435120 521403",
    "012345 103254 240531 354102 425013 531420",
    "012345 103452 230514 345021 451203 524130",
    "012345 103452 230514 345021 451230 524103",
    "012345 103452 231504 345120 450231 524013",
    "012345 103452 231504 354120 425013 540231",
    "012345 103452 234501 325014 450123 541230",
    "012345 103452 234501 325014 451230 540123",
    "012345 103452 234501 345210 450123 521034",
    "012345 103452 234510 351024 425103 540231",
    "012345 103452 240531 351024 425103 534210",
    "012345 120453 201534 354102 435210 543021",
))
