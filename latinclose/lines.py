"""Lines, the rows and columns of begun squares: what they lack, and where it may stand."""


def column_of(rows, column):
    return [row[column] for row in rows]


def columns_of(begun):
    return [column_of(begun, column) for column in range(len(begun))]


def lacked(line, size):
    return [thing for thing in range(size) if thing not in line]


def places_left(line, crossing, thing):
    # Only asked for a thing that the line lacks, so the lines that cross it decide.
    return [place for place in range(len(line)) if line[place] is None and thing not in crossing[place]]
