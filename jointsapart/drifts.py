"""Drifts: couples of patterns that keep the widest share while the brick ratio grows."""

from jointsapart.apartness import least_distance
from jointsapart.errors import BadDrift
from jointsapart.patterns import check_brick_ratio, check_counts, is_brick_ratio
from jointsapart.ratios import compare, is_ratio, least_of
from jointsapart.widest import couples_of, middles_of, ratios_between, widest_of


class Leg:
    """Two patterns that keep the widest share at each ratio from low to high; None is without end."""

    def __init__(self, low, high, one, other):
        self.low = low
        self.high = high
        self.one = one
        self.other = other


class Drift:
    """Legs, each of which begins where the one before it ends."""

    def __init__(self, legs):
        self.legs = legs


class Keeping:
    """Couples of patterns and how far each of them keeps the widest share.

    Between two neighbours of `ratios`, and behind the last, a couple keeps it throughout or nowhere.
    """

    def __init__(self, a_count, b_count):
        self.ratios = ratios_between(a_count, b_count)
        self.middles = middles_of(self.ratios)
        self.rows = _rows_keeping(couples_of(a_count, b_count), self.middles)

    def part_of_ratio(self, ratio):
        """Return the number of the part between two ratios that this ratio begins or lies in."""
        return len([bound for bound in self.ratios if compare(bound, ratio) <= 0]) - 1

    def furthest(self, ratio):
        """Return (number of the first part not kept, one, other) for the leg from a ratio that goes furthest."""
        part = self.part_of_ratio(ratio)
        best = None
        for one, other, kept in self.rows:
            end = part
            while end < len(kept) and kept[end]:
                end += 1
            if best is None or end > best[0]:
                best = (end, one, other)
        return best

    def reach_of(self, ratio):
        """Return the greatest ratio up to which a leg from this one can go, or None without end."""
        return self.bound_at(self.furthest(ratio)[0])

    def bound_at(self, part):
        """Return the ratio at which a part begins, or None behind the last part."""
        return self.ratios[part] if part < len(self.ratios) else None

    def ratio_behind(self, bound):
        """Return a ratio within the part that one of the bounds begins."""
        return self.middles[self.part_of_ratio(bound)]


def _rows_keeping(couples, middles):
    """Return rows (one, other, for each middle whether the couple keeps the widest share there)."""
    widest = [widest_of(couples, middle) for middle in middles]
    return [(one, other, [least_distance(differences, middle) == due for middle, due in zip(middles, widest)])
            for one, other, differences in couples]


def check_drift(a_count, b_count, low, high):
    """Return the counts, or raise BadCounts or BadDrift."""
    counts = check_counts(a_count, b_count)
    if not is_brick_ratio(low):
        raise BadDrift("low")
    if high is not None and (not is_ratio(high) or compare(high, low) < 0):
        raise BadDrift("high")
    return counts


def is_up_to(ratio, high):
    """Tell whether a ratio, or None without end, is not above a high, or None without end."""
    if ratio is None or high is None:
        return high is None
    return compare(ratio, high) <= 0


def drift_for(a_count, b_count, low, high):
    """Return the Drift with the fewest legs from low up to high."""
    check_drift(a_count, b_count, low, high)
    keeping = Keeping(a_count, b_count)
    legs = []
    place = low
    while not legs or legs[-1].high != high:
        end, one, other = keeping.furthest(place)
        bound = keeping.bound_at(end)
        legs.append(Leg(place, bound if is_up_to(bound, high) else high, one, other))
        place = bound
    return Drift(tuple(legs))


def reach_from(a_count, b_count, ratio):
    """Return the greatest ratio up to which a leg from this one can go, or None without end."""
    check_counts(a_count, b_count)
    check_brick_ratio(ratio)
    return Keeping(a_count, b_count).reach_of(ratio)


def drift_marks(a_count, b_count, low, high):
    """Return as many ratios as the fewest legs, no leg having two of them."""
    check_drift(a_count, b_count, low, high)
    keeping = Keeping(a_count, b_count)
    marks = [low]
    bound = keeping.reach_of(low)
    while bound is not None and (high is None or compare(bound, high) < 0):
        mark = keeping.ratio_behind(bound)
        marks.append(mark if high is None else least_of([mark, high]))
        bound = keeping.reach_of(marks[-1])
    return tuple(marks)
