"""Stretches of brick ratios, and lists of them."""

from jointsapart.errors import BadStretch
from jointsapart.ratios import ONE, compare, greatest_of, is_ratio, least_of, make_ratio


class Stretch:
    """The ratios above 1 from low to high, both included; None is without end."""

    def __init__(self, low, high):
        if not is_ratio(low) or compare(low, ONE) < 0:
            raise BadStretch("low")
        if high is not None and not _is_high(low, high):
            raise BadStretch("high")
        self.low = low
        self.high = high

    def __contains__(self, ratio):
        return compare(ratio, ONE) > 0 and compare(self.low, ratio) <= 0 and not _is_below(self.high, ratio)

    def __eq__(self, other):
        return isinstance(other, Stretch) and self.low == other.low and self.high == other.high

    @property
    def low_shut(self):
        """Whether the low itself is in the stretch; 1 never is."""
        return self.low != ONE


def _is_high(low, high):
    return is_ratio(high) and compare(low, high) <= 0 and high != ONE


def _is_below(high, ratio):
    """Tell whether a high is below a ratio; None is without end."""
    return high is not None and compare(high, ratio) < 0


def _lesser_high(one, other):
    if one is None or other is None:
        return other if one is None else one
    return least_of([one, other])


def _greater_high(one, other):
    return None if one is None or other is None else greatest_of([one, other])


def is_in_stretches(stretches, ratio):
    """Tell whether some stretch of the list has the ratio."""
    return any([ratio in stretch for stretch in stretches])


def either_stretches(one, other):
    """Return the list of the ratios that are in one of the lists or in both."""
    joined = []
    for stretch in _by_low(one, other):
        if joined and not _is_below(joined[-1].high, stretch.low):
            last = joined.pop()
            joined.append(Stretch(last.low, _greater_high(last.high, stretch.high)))
        else:
            joined.append(Stretch(stretch.low, stretch.high))
    return tuple(joined)


def _by_low(one, other):
    """Return the stretches of both lists, none with a lesser low than the one before it."""
    merged = []
    at = 0
    for stretch in one:
        while at < len(other) and compare(other[at].low, stretch.low) < 0:
            merged.append(other[at])
            at += 1
        merged.append(stretch)
    return [*merged, *other[at:]]


def both_stretches(one, other):
    """Return the list of the ratios that are in both lists."""
    shared = []
    for stretch in one:
        for part in other:
            low = greatest_of([stretch.low, part.low])
            high = _lesser_high(stretch.high, part.high)
            if not _is_below(high, low):
                shared.append(Stretch(low, high))
    return tuple(shared)


def are_within(one, other):
    """Tell whether each ratio of the one list is in the other."""
    return all([any([_is_part(stretch, part) for part in other]) for stretch in one])


def _is_part(stretch, part):
    """Tell whether each ratio of a stretch is in another one."""
    if compare(stretch.low, part.low) < 0:
        return False
    return part.high is None or stretch.high is not None and compare(stretch.high, part.high) <= 0


def stretches_without(barred, unit):
    """Return the list of all ratios that lie strictly within none of these couples (low, high), in parts of a unit."""
    kept = []
    place = unit
    for low, high in sorted(barred):
        # A ratio that two barred couples share as their end is kept, but 1 is no brick ratio.
        if low > place or low == place > unit:
            kept.append(Stretch(make_ratio(place, unit), make_ratio(low, unit)))
        place = max(place, high)
    return (*kept, Stretch(make_ratio(place, unit), None))
