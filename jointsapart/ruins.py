"""Ruins: what can still be seen of a wall, and the right walls that it can have been."""

from jointsapart.course import joints_of
from jointsapart.errors import BadRuin, BadSign, NoNumber
from jointsapart.ratios import is_sequence, is_whole
from jointsapart.tables import Table
from jointsapart.walls import Wall

SIGNS = ("j", "b", "?")


class Ruin:
    """The signs of the places of each course, lowest course first: a joint, a brick, or not seen."""

    def __init__(self, stock, length, rows):
        if not is_whole(length, 1, 10):
            raise BadRuin(0, "length")
        if not is_sequence(rows, 1, 6):
            raise BadRuin(0, "many")
        for index, row in enumerate(rows):
            if not isinstance(row, str) or len(row) != length - 1:
                raise BadRuin(index, "row")
            if not all([sign in SIGNS for sign in row]):
                raise BadRuin(index, "sign")
        self.stock = stock
        self.length = length
        self.rows = tuple(rows)

    def __eq__(self, other):
        return (isinstance(other, Ruin) and self.stock == other.stock and self.length == other.length
                and self.rows == other.rows)

    def __len__(self):
        return len(self.rows)

    @property
    def seen(self):
        """The ascending spots (course, place) whose sign is seen."""
        return tuple([(course, at + 1) for course, row in enumerate(self.rows)
                      for at, sign in enumerate(row) if sign != "?"])

    def with_sign(self, course, place, sign):
        """Return the ruin with this sign at this spot."""
        check_spot(self, course, place)
        if sign not in SIGNS:
            raise BadSign()
        rows = list(self.rows)
        rows[course] = rows[course][:place - 1] + sign + rows[course][place:]
        return Ruin(self.stock, self.length, rows)

    def mirrored(self):
        """Return the ruin with each row turned about."""
        return Ruin(self.stock, self.length, [row[::-1] for row in self.rows])

    def upturned(self):
        """Return the ruin with its rows in reverse order."""
        return Ruin(self.stock, self.length, self.rows[::-1])


def check_spot(ruin, course, place):
    """Raise NoNumber for what is no course or no place of the ruin."""
    if not is_whole(course, 0, len(ruin.rows) - 1):
        raise NoNumber(course)
    if not is_whole(place, 1, ruin.length - 1):
        raise NoNumber(place)


def ruin_of(wall):
    """Return the ruin of a wall with every sign seen."""
    return Ruin(wall.stock, wall.length, [_signs_of(course, wall.length) for course in wall.courses])


def _signs_of(course, length):
    """Return the signs of all places of a course."""
    joints = joints_of(course)
    return "".join(["j" if place in joints else "b" for place in range(1, length)])


class Filler:
    """The courses that fit each row of a ruin, and in how many ways the rows above can be filled."""

    def __init__(self, table, rows):
        self.table = table
        self.fitting = [_fitting_numbers(table, row) for row in rows]
        self.known = {}

    def numbers_on(self, level, top):
        """Return the ascending numbers of the courses for a row upon this top behind which all rows can be filled."""
        return [number for number in self._upon(level, top)
                if self.count_from(level + 1, self.table.top_with(top, number)) > 0]

    def _upon(self, level, top):
        return [number for number in self.table.apart_from(top) if number in self.fitting[level]]

    def count_from(self, level, top):
        """Return in how many ways the rows from this one on can be filled upon a top."""
        if level == len(self.fitting):
            return 1
        if (level, top) not in self.known:
            self.known[(level, top)] = sum([self.count_from(level + 1, self.table.top_with(top, number))
                                            for number in self._upon(level, top)])
        return self.known[(level, top)]


def _fitting_numbers(table, row):
    """Return the numbers of the courses that have the signs of a row."""
    joints = _bits_of(row, "j")
    bricks = _bits_of(row, "b")
    return {number: True for number, bits in enumerate(table.places) if bits & joints == joints and not bits & bricks}


def _bits_of(row, sign):
    """Return the bits of the places of a row that have this sign."""
    return sum([1 << at + 1 for at, own in enumerate(row) if own == sign])


def filler_of(ruin):
    """Return the Filler of all rows of a ruin."""
    return Filler(Table(ruin.stock, ruin.length), ruin.rows)


def fillings(ruin):
    """Yield all fillings of the ruin in ascending order."""
    filler = filler_of(ruin)
    many = len(ruin)
    begun = ()
    for numbers in _fillings_on(filler, many, begun):
        yield Wall(ruin.stock, filler.table.told(numbers))


def _fillings_on(filler, many, numbers):
    """Yield the numbers of the courses of all fillings that begin so and have so many rows more."""
    if many == 0:
        yield numbers
        return
    fewer = many - 1
    for number in filler.numbers_on(len(numbers), numbers[-filler.table.reach:]):
        longer = (*numbers, number)
        yield from _fillings_on(filler, fewer, longer)


def count_fillings(ruin):
    """Return how many fillings the ruin has."""
    return filler_of(ruin).count_from(0, ())
