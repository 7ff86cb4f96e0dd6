"""The lengths that have so many courses pairwise apart, and such courses or what shows that there are none."""

from jointsapart.calendars import calendar_from, first_difference
from jointsapart.course import check_length
from jointsapart.ratios import as_tuples, is_sequence, is_whole
from jointsapart.stands import (can_finish, check_lot_size, couples_into, crowd_ring, first_stand, is_stand,
                                next_crowd, next_stands, rows_along)


class Barred:
    """The crowds of stands, unit by unit, behind which no stand can finish."""

    def __init__(self, size, crowds):
        self.size = size
        self.crowds = as_tuples(crowds)

    def __eq__(self, other):
        return isinstance(other, Barred) and self.size == other.size and self.crowds == other.crowds


def length_calendar(stock, *, size=None, most=4000):
    """Return the calendar of the lengths with `size` courses that are pairwise apart; None is reach + 1."""
    ring = crowd_ring(stock, _size_for(stock, size), most=most)
    answers = [any([can_finish(stock, stand) for stand in crowd]) for crowd in ring.things]
    return calendar_from(answers, ring.back)


def _size_for(stock, size):
    return stock.reach + 1 if size is None else check_lot_size(stock, size)


def same_lengths(one, other):
    """Return the least length that serves every height by exactly one of the two stocks, or None."""
    return first_difference(length_calendar(one), length_calendar(other))


def courses_for(stock, length, *, size=None):
    """Return a lot of `size` courses of this length, or Barred if there is none; None is reach + 1."""
    many = _size_for(stock, size)
    check_length(length, 60)
    crowds = [(first_stand(many),)]
    for _ in range(length):
        crowds.append(next_crowd(stock, crowds[-1]))
    ways = _ways_through(stock, crowds)
    return _lot_along(stock, many, ways) if ways[0] else Barred(many, crowds)


def _ways_through(stock, crowds):
    """Return for each crowd those of its stands that lead on to one of the last crowd that can finish."""
    ways = [{stand: True for stand in crowds[-1] if can_finish(stock, stand)}]
    for crowd in crowds[-2::-1]:
        last = ways[-1]
        ways.append({stand: True for stand in crowd
                     if any([after in last for after in next_stands(stock, stand)])})
    return ways[::-1]


def _lot_along(stock, size, ways):
    """Return the lot that a way through these stands, unit by unit, tells."""
    length = len(ways) - 1
    ends = [first_stand(size)]
    for stands in ways[1:]:
        ends.append(couples_into(stock, ends[-1], stands))
    return tuple(sorted(rows_along(ends, [length] * size)))


def barred_fault(stock, size, length, barred):
    """Return the word that tells why this does not show that there is no such lot, or None."""
    check_lot_size(stock, size)
    check_length(length, 60)
    if not is_whole(barred.size, size, size):
        return "size"
    if not is_sequence(barred.crowds, length + 1, length + 1):
        return "many"
    crowds = [_stands_in(crowd) for crowd in barred.crowds]
    if first_stand(size) not in crowds[0]:
        return "first"
    for crowd, following in zip(crowds, crowds[1:]):
        if not all([after in following for after in next_crowd(stock, crowd)]):
            return "unit"
    if any([can_finish(stock, stand) for stand in crowds[-1]]):
        return "finish"
    return None


def _stands_in(crowd):
    """Return the stands of a crowd; what only looks like one, as with 1 in the place of True, is none."""
    if not isinstance(crowd, tuple):
        return {}
    return {stand: True for stand in crowd if is_stand(stand)}
