"""Lengths of short and long bricks that serve every height, by courses of any counts."""

from jointsapart.apartness import clash_at
from jointsapart.errors import NoEnd
from jointsapart.patterns import check_brick_ratio, check_counts, check_share, pattern_counts
from jointsapart.ratios import common_multiple, make_ratio
from jointsapart.stretches import Stretch, either_stretches, is_in_stretches
from jointsapart.widest import couple_for, couple_stretches, form_fault, last_mark


def _check_ending(a_count, b_count):
    """Return the counts, or raise BadCounts, or NoEnd where the single ratios never end."""
    counts = check_counts(a_count, b_count)
    if a_count == 0 and b_count > 1:
        raise NoEnd()
    return counts


def length_stretches(a_count, b_count, share):
    """Return the list of the ratios at which two courses of this length, of any counts, are apart."""
    _check_ending(a_count, b_count)
    check_share(share)
    apart = couple_stretches(a_count, b_count, share)
    singles = [ratio for ratio in _ratios_of_other_counts(a_count, b_count)
               if not is_in_stretches(apart, ratio) and _couple_at(a_count, b_count, share, ratio) is not None]
    return either_stretches(apart, [Stretch(ratio, ratio) for ratio in singles])


def _ratios_of_other_counts(a_count, b_count):
    """Return the ascending ratios at which other counts have the length, as far as they are of use.

    Long bricks can be exchanged for short ones, at any whole number of short ones for some long ones,
    but behind the last mark the counts themselves do; or short bricks for fewer long ones.
    """
    most = last_mark(a_count, b_count) + 1 if b_count > 0 else 0
    pairs = [(top, bottom) for bottom in range(1, b_count + 1) for top in range(bottom + 1, bottom * most + 1)]
    pairs.extend([(top, bottom) for top in range(2, a_count + 1) for bottom in range(1, top)])
    unit = common_multiple([bottom for _, bottom in pairs])
    return [make_ratio(part, unit) for part in sorted({top * unit // bottom for top, bottom in pairs})]


def _couple_at(a_count, b_count, share, ratio):
    """Return two patterns of this length at a ratio, of any counts, that are apart for the share, or None."""
    long, short = ratio
    length = a_count * short + b_count * long
    # Between whole places a lap of a part more than a whole number is the next whole number.
    lap = -(-share[0] * short // share[1])
    before = {(0, 0): None}
    waiting = [(0, 0)]
    while waiting:
        places = waiting.pop()
        for after in _laid_on(places, (short, long), length, lap):
            if after not in before:
                before[after] = places
                waiting.append(after)
    return _patterns_back(before, length, long) if (length, length) in before else None


def _laid_on(places, bricks, length, lap):
    """Return the places up to which the two courses lie when a brick is laid on the shorter one.

    The lap is at most the short brick, so a new joint can only be near to the last joint of the other course.
    """
    behind = 0 if places[0] <= places[1] else 1
    other = places[1 - behind]
    found = []
    for brick in bricks:
        place = places[behind] + brick
        if place < length and 0 < other < length and abs(place - other) < lap or place > length:
            continue
        found.append((place, other) if behind == 0 else (other, place))
    return found


def _patterns_back(before, length, long):
    """Return the two patterns that lead to the end of both courses."""
    rows = ([], [])
    after = (length, length)
    places = before[after]
    while places is not None:
        behind = 0 if places[0] != after[0] else 1
        rows[behind].append(1 if after[behind] - places[behind] == long else 0)
        after = places
        places = before[after]
    return (tuple(rows[0][::-1]), tuple(rows[1][::-1]))


def courses_at(a_count, b_count, share, ratio):
    """Return two patterns of this length at a ratio that are apart there for the share, or None."""
    _check_ending(a_count, b_count)
    check_share(share)
    check_brick_ratio(ratio)
    couple = couple_for(a_count, b_count, share, ratio)
    # At other ratios the length has patterns of these counts alone.
    if couple is None and ratio[1] <= 8:
        return _couple_at(a_count, b_count, share, ratio)
    return couple


def courses_fault(a_count, b_count, share, ratio, couple):
    """Return the word that tells why these are not two patterns of this length that are apart, or None."""
    counts = check_counts(a_count, b_count)
    check_share(share)
    check_brick_ratio(ratio)
    word = form_fault(couple)
    if word is not None:
        return word
    lengths = [_length_at(pattern_counts(pattern), ratio) for pattern in couple]
    if any([length != _length_at(counts, ratio) for length in lengths]):
        return "length"
    return None if clash_at(couple[0], couple[1], share, ratio) is None else "clash"


def _length_at(counts, ratio):
    """Return the length of so many bricks, in parts of the ratio's bottom."""
    return counts[0] * ratio[1] + counts[1] * ratio[0]
