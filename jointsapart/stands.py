"""Stands: what must be known at a place when several courses are read together, unit by unit."""

from jointsapart.errors import BadSize
from jointsapart.ratios import is_whole
from jointsapart.repeating import check_far, until_repeated


def first_stand(size):
    """Return the stand of this many courses at their beginning."""
    if not is_whole(size, 1, 3):
        raise BadSize()
    return ((0, True),) * size


def unit_steps(stock, couples):
    """Return what can come of the couples within one unit: rows (index of the course with a joint, couples)."""
    older = tuple([(age + 1, fresh) for age, fresh in couples])
    rows = [(None, older)]
    for index, couple in enumerate(older):
        others = older[:index] + older[index + 1:]
        if couple[0] in stock.bricks and all([fresh or age >= stock.lap for age, fresh in others]):
            rows.append((index, older[:index] + ((0, False),) + older[index + 1:]))
    return tuple([row for row in rows if _are_young(stock, row[1])])


def _are_young(stock, couples):
    """Tell whether no age is above the longest brick."""
    return all([age <= stock.longest for age, _ in couples])


def next_stands(stock, stand):
    """Return the ascending stands that can come of a stand in one unit."""
    return tuple(sorted({tuple(sorted(couples)) for _, couples in unit_steps(stock, stand)}))


def can_finish(stock, stand):
    """Tell whether all courses can end here: all ages are bricks."""
    return all([age in stock.bricks for age, _ in stand])


def is_couple(thing):
    """Tell whether this is a tuple of an age and True or False; 1 in the place of True is not let."""
    if not isinstance(thing, tuple) or len(thing) != 2:
        return False
    return is_whole(thing[0], 0) and isinstance(thing[1], bool)


def is_stand(thing):
    """Tell whether this is a tuple of couples."""
    return isinstance(thing, tuple) and all([is_couple(part) for part in thing])


def couples_into(stock, couples, stands):
    """Return the first couples that can come of these within one unit and make one of the stands, or None."""
    for _, after in unit_steps(stock, couples):
        if tuple(sorted(after)) in stands:
            return after
    return None


def rows_along(ends, lasts):
    """Return the row of bricks of each course that has these couples, place by place.

    A row begins where the course's last joint or its beginning is, and ends at its entry of `lasts`.
    """
    rows = []
    for number, last in enumerate(lasts):
        joints = [place for place in range(1, len(ends)) if ends[place][number] == (0, False)]
        places = [-ends[0][number][0], *joints, last]
        rows.append(tuple([right - left for left, right in zip(places, places[1:])]))
    return tuple(rows)


def next_crowd(stock, crowd):
    """Return the ascending stands that can come of the stands of a crowd in one unit."""
    return tuple(sorted({after for stand in crowd for after in next_stands(stock, stand)}))


def check_lot_size(stock, size):
    """Return a size that is a whole number from 1 to reach + 1, or raise BadSize."""
    if not is_whole(size, 1, stock.reach + 1):
        raise BadSize()
    return size


def crowd_ring(stock, size, *, most=4000):
    """Return the crowds behind 0, 1, 2, .. units as a Repeating."""
    check_lot_size(stock, size)
    return until_repeated((first_stand(size),), lambda crowd: next_crowd(stock, crowd), most=most)


def crowd_after(stock, size, units, *, most=4000):
    """Return the crowd behind this many units."""
    check_lot_size(stock, size)
    check_far(units)
    return crowd_ring(stock, size, most=most).at(units)
