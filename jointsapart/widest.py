"""The widest share that patterns of the same counts can keep, for all brick ratios together."""

from jointsapart.apartness import clash_at, differences_between, least_distance
from jointsapart.errors import BadPattern
from jointsapart.patterns import (check_brick_ratio, check_counts, check_pattern, check_share, pattern_counts,
                                  pattern_joints, patterns_of)
from jointsapart.ratios import ONE, common_multiple, is_sequence, make_ratio
from jointsapart.stretches import Stretch, stretches_without


class Segment:
    """From low to high the widest share is start + rise * ratio."""

    def __init__(self, low, high, start, rise):
        self.low = low
        self.high = high
        self.start = start
        self.rise = rise


def has_one_kind(a_count, b_count):
    """Tell whether all bricks are short or all are long, so that there is one pattern alone."""
    return a_count == 0 or b_count == 0


def couples_of(a_count, b_count):
    """Return rows (one, other, differences) of all couples of patterns without a joint in common.

    Where all bricks are alike there is one row: the only pattern with itself.
    """
    rows = [(pattern, pattern_joints(pattern)) for pattern in patterns_of(a_count, b_count)]
    if len(rows) == 1:
        pattern, joints = rows[0]
        return [(pattern, pattern, differences_between(joints, joints))]
    couples = []
    for at, (one, joints) in enumerate(rows):
        for other, others in rows[at + 1:]:
            differences = differences_between(joints, others)
            if (0, 0) not in differences:
                couples.append((one, other, differences))
    return couples


def ratios_between(a_count, b_count):
    """Return the ascending ratios from 1 on between which no two distances change their order.

    The distances are those of the joints of two patterns of the counts, and 1.
    """
    unit = common_multiple(list(range(1, 2 * b_count + 1)))
    parts = {top * unit // bottom: True for bottom in range(1, 2 * b_count + 1)
             for top in range(bottom + 1, 2 * a_count + 1)}
    return (ONE, *[make_ratio(part, unit) for part in sorted(list(parts))])


def middles_of(ratios):
    """Return a ratio between each two neighbours, and one behind the last."""
    pairs = [make_ratio(low[0] * high[1] + high[0] * low[1], 2 * low[1] * high[1])
             for low, high in zip(ratios, ratios[1:])]
    return (*pairs, make_ratio(ratios[-1][0] + ratios[-1][1], ratios[-1][1]))


def widest_of(couples, ratio):
    """Return the greatest of the least distances of these couples, in parts of the ratio's bottom, or None."""
    return max([least_distance(row[2], ratio) for row in couples])


def widest_share(a_count, b_count, ratio):
    """Return the greatest share for which two patterns of the counts are apart, or None for one brick."""
    check_counts(a_count, b_count)
    check_brick_ratio(ratio)
    widest = widest_of(couples_of(a_count, b_count), ratio)
    return None if widest is None else make_ratio(widest, ratio[1])


def share_profile(a_count, b_count):
    """Return the widest share for all ratios as Segments, each of them one line."""
    check_counts(a_count, b_count)
    if a_count + b_count == 1:
        return ()
    couples = couples_of(a_count, b_count)
    ratios = ratios_between(a_count, b_count)
    lines = [_line_at(couples, middle) for middle in middles_of(ratios)]
    kept = [index for index in range(len(lines)) if index == 0 or lines[index] != lines[index - 1]]
    lows = [ratios[index] for index in kept]
    return tuple([Segment(low, high, lines[index][0], lines[index][1])
                  for index, low, high in zip(kept, lows, [*lows[1:], None])])


def _line_at(couples, ratio):
    """Return (start, rise) of the widest share around a ratio at which no two lines meet."""
    top, bottom = ratio
    widest = widest_of(couples, ratio)
    shorts, longs = [line for row in couples for line in row[2]
                     if abs(line[0] * bottom + line[1] * top) == widest][0]
    return (shorts, longs) if shorts * bottom + longs * top > 0 else (-shorts, -longs)


def last_mark(a_count, b_count):
    """Return the greatest whole number that the ratio must keep away from, for short and long bricks."""
    # The least whole number that is at least (a_count - 1) / b_count, and 1 more.
    return -((1 - a_count) // b_count) + 1


def couple_stretches(a_count, b_count, share):
    """Return the list of the ratios at which some two patterns of the counts are apart for the share."""
    check_counts(a_count, b_count)
    top, bottom = check_share(share)
    if a_count + b_count == 1:
        return (Stretch(ONE, None),)
    if has_one_kind(a_count, b_count):
        return ()
    marks = range(1, last_mark(a_count, b_count) + 1)
    return stretches_without([(mark * bottom - top, mark * bottom + top) for mark in marks], bottom)


def couple_for(a_count, b_count, share, ratio):
    """Return two patterns of the counts that are apart at a ratio for the share, or None."""
    check_counts(a_count, b_count)
    top, bottom = check_share(share)
    check_brick_ratio(ratio)
    for one, other, differences in couples_of(a_count, b_count):
        least = least_distance(differences, ratio)
        if least is None or least * bottom >= top * ratio[1]:
            return (one, other)
    return None


def couple_fault(a_count, b_count, share, ratio, couple):
    """Return the word that tells why these are not two patterns of the counts that are apart, or None."""
    counts = check_counts(a_count, b_count)
    check_share(share)
    check_brick_ratio(ratio)
    word = patterns_fault(counts, couple)
    if word is not None:
        return word
    return None if clash_at(couple[0], couple[1], share, ratio) is None else "clash"


def patterns_fault(counts, couple):
    """Return the word that tells why these are not two patterns of the counts, or None."""
    word = form_fault(couple)
    if word is None and any([pattern_counts(pattern) != counts for pattern in couple]):
        return "counts"
    return word


def form_fault(couple):
    """Return the word that tells why these are not two patterns, or None."""
    if not is_sequence(couple, 2, 2):
        return "many"
    return None if all([is_pattern(pattern) for pattern in couple]) else "pattern"


def is_pattern(thing):
    """Tell whether check_pattern takes this."""
    try:
        check_pattern(thing)
    except BadPattern:
        return False
    return True
