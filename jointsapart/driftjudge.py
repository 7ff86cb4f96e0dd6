"""What is wrong with a drift, or with marks that show that it has few legs."""

from jointsapart.apartness import differences_between, least_distance
from jointsapart.drifts import Keeping, check_drift, is_up_to
from jointsapart.patterns import is_brick_ratio, pattern_counts, pattern_joints
from jointsapart.ratios import ONE, compare, greatest_of, is_ratio, plus
from jointsapart.widest import couples_of, is_pattern, ratios_between, widest_of


def drift_fault(a_count, b_count, low, high, drift):
    """Return the word that tells why this is no drift of the counts from low to high, or None."""
    counts = check_drift(a_count, b_count, low, high)
    legs = drift.legs
    if not isinstance(legs, (list, tuple)) or not legs:
        return "none"
    if not _is_bound(legs[0].low, low):
        return "low"
    if not _is_bound(legs[-1].high, high):
        return "high"
    if not _are_joined(legs):
        return "joined"
    patterns = [pattern for leg in legs for pattern in (leg.one, leg.other)]
    if not all([is_pattern(pattern) for pattern in patterns]):
        return "pattern"
    if any([pattern_counts(pattern) != counts for pattern in patterns]):
        return "counts"
    return None if _are_wide(counts, legs) else "narrow"


def _is_bound(told, due):
    """Tell whether a bound that is told is the one that is due; None is without end."""
    if due is None:
        return told is None
    return is_ratio(told) and told == due


def _are_joined(legs):
    highs = [leg.high for leg in legs]
    # A low that is None would be the high before it, if that may be None, too.
    if None in highs[:-1] or not all([_is_bound(leg.low, high) for leg, high in zip(legs[1:], highs)]):
        return False
    return all([is_up_to(leg.low, leg.high) for leg in legs])


def _are_wide(counts, legs):
    """Tell whether each leg keeps the widest share at each of its ratios."""
    couples = couples_of(counts[0], counts[1])
    ratios = ratios_between(counts[0], counts[1])
    return all([_is_wide(couples, ratios, leg) for leg in legs])


def _is_wide(couples, ratios, leg):
    joints = pattern_joints(leg.one)
    others = pattern_joints(leg.other)
    differences = differences_between(joints, others)
    # Between these places, and behind the last, all distances are on one line each.
    within = [ratio for ratio in ratios if compare(leg.low, ratio) < 0 and is_up_to(ratio, leg.high)]
    last = plus(greatest_of([leg.low, *within]), ONE) if leg.high is None else leg.high
    places = [leg.low, *within, last]
    return all([least_distance(differences, place) == widest_of(couples, place) for place in places])


def marks_fault(a_count, b_count, low, high, marks):
    """Return the word that tells why these are no ratios of which no leg has two, or None."""
    check_drift(a_count, b_count, low, high)
    if not isinstance(marks, (list, tuple)) or not marks:
        return "none"
    if not all([is_brick_ratio(mark) for mark in marks]):
        return "ratio"
    if not all([is_up_to(low, mark) and is_up_to(mark, high) for mark in marks]):
        return "range"
    if not all([compare(mark, following) < 0 for mark, following in zip(marks, marks[1:])]):
        return "order"
    keeping = Keeping(a_count, b_count)
    if any([is_up_to(following, keeping.reach_of(mark)) for mark, following in zip(marks, marks[1:])]):
        return "held"
    return None
