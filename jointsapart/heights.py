"""How many right walls there are of a height, and how far a right wall can be gone on with."""

from jointsapart.course import check_length
from jointsapart.errors import BadHeight
from jointsapart.ratios import is_whole
from jointsapart.tables import Table, is_in_lot, tops_of
from jointsapart.walls import check_right


def walls_counted(stock, length, height):
    """Return how many right walls there are of this length and height."""
    check_length(length, 10)
    if not is_whole(height, 1, 60):
        raise BadHeight()
    table = Table(stock, length)
    counts = {top: 1 for top in tops_of(table, min(table.reach, height))}
    for _ in range(height - table.reach):
        counts = _counts_above(table, counts)
    return sum(counts.values())


def _counts_above(table, counts):
    """Return for each top how many right walls have it, one course higher."""
    above = {}
    for top in counts:
        # What is apart from the whole top is what can lie just below it.
        above[top] = sum([counts[(number,) + top[:-1]] for number in table.apart_from(top)])
    return above


def most_on(wall):
    """Return by how many courses the right wall can be gone on with at most, or None if for ever."""
    table = _table_for(wall)
    top = table.top_of(wall.courses)
    if is_in_lot(table, top):
        return None
    # A second course would make a lot of reach + 1 together with the first one and the top.
    return 1 if table.apart_from(top) else 0


def goes_on(wall):
    """Return the first course after which the right wall can be gone on with for ever, or None."""
    table = _table_for(wall)
    top = table.top_of(wall.courses)
    for number in table.apart_from(top):
        if is_in_lot(table, top + (number,)):
            return table.courses[number]
    return None


def _table_for(wall):
    check_length(wall.length, 12)
    check_right(wall)
    return Table(wall.stock, wall.length)
