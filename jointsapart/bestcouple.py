"""One couple of patterns that is enough for all brick ratios."""

from jointsapart.apartness import differences_between, least_distance
from jointsapart.patterns import check_counts, pattern_joints
from jointsapart.widest import couples_of, has_one_kind, last_mark, patterns_fault, ratios_between


def last_whole(a_count, b_count):
    """Return the greatest whole number that the ratio must keep away from, or None if all bricks are alike."""
    check_counts(a_count, b_count)
    return None if has_one_kind(a_count, b_count) else last_mark(a_count, b_count)


def _is_enough(differences, a_count, b_count):
    """Tell whether a couple keeps at each ratio each share up to 1 that some couple of the counts keeps there."""
    # Between these ratios all is on one line, and behind the last one no distance becomes less.
    return all([least_distance(differences, ratio) >= _distance_due(a_count, b_count, ratio)
                for ratio in ratios_between(a_count, b_count)])


def _distance_due(a_count, b_count, ratio):
    """Return the greatest share up to 1 that some couple keeps at a ratio, in parts of the ratio's bottom."""
    top, bottom = ratio
    marks = range(1, last_mark(a_count, b_count) + 1)
    return min(bottom, min([abs(top - mark * bottom) for mark in marks]))


def best_couple(a_count, b_count):
    """Return two patterns that are apart wherever some two patterns of the counts are."""
    check_counts(a_count, b_count)
    couples = couples_of(a_count, b_count)
    if not has_one_kind(a_count, b_count):
        couples = [row for row in couples if _is_enough(row[2], a_count, b_count)]
    return couples[0][:2]


def best_fault(a_count, b_count, couple):
    """Return the word that tells why these two patterns are not enough for all ratios, or None."""
    counts = check_counts(a_count, b_count)
    word = patterns_fault(counts, couple)
    if word is not None or has_one_kind(a_count, b_count):
        return word
    joints = pattern_joints(couple[0])
    others = pattern_joints(couple[1])
    return None if _is_enough(differences_between(joints, others), a_count, b_count) else "worse"
