"""One couple of patterns that is enough for all brick ratios."""

from jointsapart.apartness import differences_between, least_distance
from jointsapart.patterns import check_counts, pattern_joints
from jointsapart.widest import couples_of, has_one_kind, last_mark, patterns_fault, ratios_between


def last_whole(a_count, b_count):
    """Return the greatest whole number that the ratio must keep away from, or None if all bricks are alike."""
    check_counts(a_count, b_count)
    return None if has_one_kind(a_count, b_count) else last_mark(a_count, b_count)


def _places(a_count, b_count):
    """Return the ratios at which a couple must do: between them, and behind the last, all is on one line."""
    ratios = ratios_between(a_count, b_count)
    return (*ratios, (ratios[-1][0] + ratios[-1][1], ratios[-1][1]))


def _is_enough(differences, a_count, b_count, ratio):
    """Tell whether a couple keeps at a ratio each share up to 1 that some couple of the counts keeps there."""
    top, bottom = ratio
    marks = range(1, last_mark(a_count, b_count) + 1)
    due = min([abs(top - mark * bottom) for mark in marks])
    return least_distance(differences, ratio) >= min(due, bottom)


def best_couple(a_count, b_count):
    """Return two patterns that are apart wherever some two patterns of the counts are."""
    check_counts(a_count, b_count)
    if has_one_kind(a_count, b_count):
        pattern = (0,) * a_count + (1,) * b_count
        return (pattern, pattern)
    ratios = _places(a_count, b_count)
    for one, other, differences in couples_of(a_count, b_count):
        if all([_is_enough(differences, a_count, b_count, ratio) for ratio in ratios]):
            return (one, other)
    return None


def best_fault(a_count, b_count, couple):
    """Return the word that tells why these two patterns are not enough for all ratios, or None."""
    counts = check_counts(a_count, b_count)
    word = patterns_fault(counts, couple)
    if word is not None or has_one_kind(a_count, b_count):
        return word
    joints = pattern_joints(couple[0])
    others = pattern_joints(couple[1])
    differences = differences_between(joints, others)
    ratios = _places(a_count, b_count)
    return None if all([_is_enough(differences, a_count, b_count, ratio) for ratio in ratios]) else "worse"
