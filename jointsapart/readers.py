"""Readers: how the loads of a wall are told from its feet, or two loads that have the same feet."""

from jointsapart.errors import BadFeet, BadLoads, BadMost, TooManyBricks
from jointsapart.loads import check_loads, check_weight, loads_below
from jointsapart.ratios import (ONE, ZERO, greatest_of, is_ratio, is_sequence, is_whole, minus, negative, over, sum_of,
                                times)
from jointsapart.shares import share_rows


class Reader:
    """For each topmost brick the numbers by which its load is told from the feet."""

    def __init__(self, rows):
        self.rows = rows


class Twins:
    """Two unlike loads that have the same feet."""

    def __init__(self, one, other):
        self.one = one
        self.other = other


def check_few_bricks(wall, most):
    """Raise BadMost for what is no bound, or TooManyBricks if the wall has more bricks than that."""
    if not is_whole(most, 1):
        raise BadMost()
    if sum([len(course) for course in wall.courses]) > most:
        raise TooManyBricks(most)


def reader_of(wall, *, most=30):
    """Return a Reader if all loads can be told from their feet, otherwise Twins."""
    check_few_bricks(wall, most)
    shares = share_rows(wall)
    many = len(shares)
    # Behind the shares of each topmost brick stands how much of each load its row is made of.
    rows = [[*row, *[ONE if other == number else ZERO for other in range(many)]] for number, row in enumerate(shares)]
    feet = len(shares[0])
    columns = []
    for number in range(many):
        column = _first_column(rows[number][:feet])
        if column is None:
            return _twins_by(rows[number][feet:])
        columns.append(column)
        rows = _cleared(rows, number, column)
    return Reader(tuple([_reading_row(rows, columns, feet, number) for number in range(many)]))


def _first_column(row):
    """Return the number of the first entry that is not 0, or None."""
    for column, entry in enumerate(row):
        if entry != ZERO:
            return column
    return None


def _cleared(rows, number, column):
    """Return the rows with 1 in this column of this row and 0 in this column of all others."""
    own = rows[number]
    unit = [over(entry, own[column]) for entry in own]
    return [unit if at == number else _less(row, row[column], unit) for at, row in enumerate(rows)]


def _less(row, many, unit):
    """Return the row less so many times another one."""
    if many == ZERO:
        return row
    return [minus(entry, times(many, part)) for entry, part in zip(row, unit)]


def _twins_by(changes):
    """Return Twins that differ by these changes, none of which comes to the feet."""
    one = [greatest_of([change, ZERO]) for change in changes]
    other = [greatest_of([negative(change), ZERO]) for change in changes]
    return Twins(tuple(one), tuple(other))


def _reading_row(rows, columns, feet, number):
    """Return the entries for each foot brick by which the load of this topmost brick is told."""
    entries = [ZERO] * feet
    for row, column in zip(rows, columns):
        entries[column] = row[feet + number]
    return tuple(entries)


def reader_fault(wall, reader):
    """Return the word that tells what is wrong with a Reader of the wall, or None."""
    rows = reader.rows
    many = len(wall.courses[-1])
    feet = len(wall.courses[0])
    if not is_sequence(rows, many, many) or not all([_are_ratios(row, feet) for row in rows]):
        return "rows"
    for number, shares in enumerate(share_rows(wall)):
        told = [_product(shares, row) for row in rows]
        if told != [ONE if other == number else ZERO for other in range(many)]:
            return "shares"
    return None


def _are_ratios(thing, many):
    return is_sequence(thing, many, many) and all([is_ratio(entry) for entry in thing])


def _product(ratios, others):
    """Return the sum of the products of each two entries."""
    return sum_of([times(one, other) for one, other in zip(ratios, others)])


def twins_fault(wall, twins):
    """Return the word that tells what is wrong with Twins of the wall, or None."""
    try:
        one = check_loads(wall, twins.one)
        other = check_loads(wall, twins.other)
    except BadLoads:
        return "loads"
    if one == other:
        return "equal"
    # The weight adds the same to both.
    return None if loads_below(wall, one, ZERO)[0] == loads_below(wall, other, ZERO)[0] else "feet"


def read_loads(wall, reader, feet, weight):
    """Return the loads that the reader tells from the feet."""
    many = len(wall.courses[0])
    if not is_sequence(feet, many, many):
        raise BadFeet(0)
    for index, foot in enumerate(feet):
        if not is_ratio(foot):
            raise BadFeet(index)
    own = loads_below(wall, (ZERO,) * len(wall.courses[-1]), check_weight(weight))[0]
    handed = [minus(foot, part) for foot, part in zip(feet, own)]
    return tuple([_product(handed, row) for row in reader.rows])
