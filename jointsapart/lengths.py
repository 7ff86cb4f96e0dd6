"""The lengths that have so many courses pairwise apart, and such courses or what shows that there are none."""

from jointsapart.calendars import calendar_from, first_difference
from jointsapart.course import check_length, course_from
from jointsapart.ratios import as_tuples, is_sequence, is_whole
from jointsapart.stands import (can_finish, check_lot_size, crowd_ring, first_stand, next_crowd, next_stands,
                                unit_steps)


class Barred:
    """The crowds of stands, unit by unit, behind which no stand can finish."""

    def __init__(self, size, crowds):
        self.size = size
        self.crowds = as_tuples(crowds)

    def __eq__(self, other):
        return isinstance(other, Barred) and self.size == other.size and self.crowds == other.crowds


def length_calendar(stock, *, size=None, most=4000):
    """Return the calendar of the lengths with `size` courses that are pairwise apart; None is reach + 1."""
    ring = crowd_ring(stock, _size_for(stock, size), most=most)
    answers = [any([can_finish(stock, stand) for stand in crowd]) for crowd in ring.things]
    return calendar_from(answers, ring.back)


def _size_for(stock, size):
    return stock.reach + 1 if size is None else check_lot_size(stock, size)


def same_lengths(one, other):
    """Return the least length that serves every height by exactly one of the two stocks, or None."""
    return first_difference(length_calendar(one), length_calendar(other))


def courses_for(stock, length, *, size=None):
    """Return a lot of `size` courses of this length, or Barred if there is none; None is reach + 1."""
    many = _size_for(stock, size)
    check_length(length, 60)
    crowds = [(first_stand(many),)]
    for _ in range(length):
        crowds.append(next_crowd(stock, crowds[-1]))
    ways = _ways_through(stock, crowds)
    return _lot_along(stock, many, ways) if ways[0] else Barred(many, crowds)


def _ways_through(stock, crowds):
    """Return for each crowd those of its stands that lead on to one of the last crowd that can finish."""
    ways = [{stand: True for stand in crowds[-1] if can_finish(stock, stand)}]
    for crowd in crowds[-2::-1]:
        last = ways[-1]
        ways.append({stand: True for stand in crowd
                     if any([after in last for after in next_stands(stock, stand)])})
    return ways[::-1]


def _lot_along(stock, size, ways):
    """Return the lot that a way through these stands, unit by unit, tells."""
    length = len(ways) - 1
    couples = first_stand(size)
    joints = [[] for _ in range(size)]
    for place in range(1, length + 1):
        index, couples = _step_into(stock, couples, ways[place])
        if index is not None:
            joints[index].append(place)
    return tuple(sorted([course_from(places, length) for places in joints]))


def _step_into(stock, couples, stands):
    """Return the first row of unit_steps whose couples make one of these stands; there must be one."""
    return [row for row in unit_steps(stock, couples) if tuple(sorted(row[1])) in stands][0]


def barred_fault(stock, size, length, barred):
    """Return the word that tells why this does not show that there is no such lot, or None."""
    check_lot_size(stock, size)
    check_length(length, 60)
    if not is_whole(barred.size, size, size):
        return "size"
    if not is_sequence(barred.crowds, length + 1, length + 1):
        return "many"
    crowds = [_stands_in(crowd) for crowd in barred.crowds]
    if first_stand(size) not in crowds[0]:
        return "first"
    for crowd, following in zip(crowds, crowds[1:]):
        if not all([after in following for after in next_crowd(stock, crowd)]):
            return "unit"
    if any([can_finish(stock, stand) for stand in crowds[-1]]):
        return "finish"
    return None


def _stands_in(crowd):
    """Return the stands of a crowd; what only looks like one, as with 1 in the place of True, is none."""
    if not isinstance(crowd, tuple):
        return {}
    return {stand: True for stand in crowd if isinstance(stand, tuple) and all([_is_couple(thing) for thing in stand])}


def _is_couple(thing):
    if not isinstance(thing, tuple) or len(thing) != 2:
        return False
    return is_whole(thing[0], 0) and isinstance(thing[1], bool)
