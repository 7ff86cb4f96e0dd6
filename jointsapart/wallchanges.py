"""How two walls differ, and how few courses must be replaced so that a wall is right."""

from jointsapart.errors import CannotPile, TooLong
from jointsapart.tables import Table, tops_of
from jointsapart.walls import Wall
from jointsapart.wallwork import check_alike


class Changed:
    """A right wall, and the number of courses in which it differs from the one asked about."""

    def __init__(self, number, wall):
        self.number = number
        self.wall = wall


def changes_between(one, other):
    """Return the ascending numbers at which the courses of two walls differ."""
    check_alike(one, other)
    if len(one) != len(other):
        raise CannotPile("height")
    return tuple([number for number in range(len(one)) if one.courses[number] != other.courses[number]])


def fewest_changes(wall):
    """Return a right wall that differs from this one in as few courses as can be, or None."""
    if wall.length > 8:
        raise TooLong(8)
    table = Table(wall.stock, wall.length)
    olds = [table.numbers[course] for course in wall.courses]
    size = min(table.reach, len(wall))
    best = {top: (_many_unlike(top, olds), top) for top in tops_of(table, size)}
    for old in olds[size:]:
        best = _best_above(table, best, old)
    if not best:
        return None
    many, numbers = min(list(best.values()))
    return Changed(many, Wall(wall.stock, table.told(numbers)))


def _many_unlike(numbers, olds):
    return len([number for number, old in zip(numbers, olds) if number != old])


def _best_above(table, best, old):
    """Return for each top the fewest changes and the courses up to it, one course higher."""
    above = {}
    for top in best:
        # What is apart from the whole top is what can lie just below it, and it can go round so for ever.
        ways = [best[(number,) + top[:-1]] for number in table.apart_from(top)]
        if ways:
            many, numbers = min(ways)
            above[top] = (many if top[-1] == old else many + 1, numbers + top[-1:])
    return above
