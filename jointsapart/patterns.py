"""Patterns: courses of short bricks, whose length is 1, and of long ones, whose length is the brick ratio."""

from jointsapart.course import check_course
from jointsapart.errors import BadBrickRatio, BadCounts, BadPattern, BadShare, NotTwo
from jointsapart.ratios import ONE, ZERO, compare, is_ratio, is_sequence, is_whole, make_ratio


def check_pattern(pattern):
    """Return the pattern as a tuple, or raise BadPattern."""
    if not is_sequence(pattern, 1, 50):
        raise BadPattern(0)
    for index, brick in enumerate(pattern):
        if not is_whole(brick, 0, 1):
            raise BadPattern(index)
    return tuple(pattern)


def is_brick_ratio(ratio):
    """Tell whether this is a ratio above 1."""
    return is_ratio(ratio) and compare(ratio, ONE) > 0


def check_brick_ratio(ratio):
    """Return a ratio above 1, or raise BadBrickRatio."""
    if not is_brick_ratio(ratio):
        raise BadBrickRatio(ratio)
    return ratio


def check_share(share):
    """Return a ratio above 0 and at most 1, or raise BadShare."""
    if not is_ratio(share) or compare(share, ZERO) <= 0 or compare(share, ONE) > 0:
        raise BadShare(share)
    return share


def check_counts(a_count, b_count):
    """Return the couple of the numbers of short and of long bricks, or raise BadCounts."""
    if not is_whole(a_count, 0, 8):
        raise BadCounts("a")
    if not is_whole(b_count, 0, 8):
        raise BadCounts("b")
    if not 1 <= a_count + b_count <= 8:
        raise BadCounts("many")
    return (a_count, b_count)


def pattern_counts(pattern):
    """Return the numbers of short and of long bricks of a pattern."""
    row = check_pattern(pattern)
    return (row.count(0), row.count(1))


def pattern_joints(pattern):
    """Return the joints (short bricks before it, long bricks before it) from left to right."""
    row = check_pattern(pattern)
    joints = []
    shorts = 0
    for index, brick in enumerate(row[:-1]):
        shorts += 1 - brick
        joints.append((shorts, index + 1 - shorts))
    return tuple(joints)


def mirrored_pattern(pattern):
    """Return the pattern from right to left."""
    return check_pattern(pattern)[::-1]


def place_at(joint, ratio):
    """Return the place of a joint at a brick ratio."""
    top, bottom = check_brick_ratio(ratio)
    return make_ratio(joint[0] * bottom + joint[1] * top, bottom)


def _two_bricks(stock):
    if len(stock.bricks) != 2:
        raise NotTwo()
    return stock.bricks


def stock_ratio(stock):
    """Return (the greater brick, the lap), both by the lesser brick."""
    short, long = _two_bricks(stock)
    return (make_ratio(long, short), make_ratio(stock.lap, short))


def course_by(stock, pattern):
    """Return the course of a stock of two bricks that has this pattern."""
    bricks = _two_bricks(stock)
    return tuple([bricks[brick] for brick in check_pattern(pattern)])


def pattern_by(stock, course):
    """Return the pattern of a course of a stock of two bricks."""
    long = _two_bricks(stock)[1]
    row = check_course(stock, course)
    if len(row) > 50:
        raise BadPattern(0)
    return tuple([1 if brick == long else 0 for brick in row])


def patterns_of(a_count, b_count):
    """Yield all patterns with so many short and so many long bricks, in ascending order."""
    check_counts(a_count, b_count)
    pattern = (0,) * a_count + (1,) * b_count
    while pattern is not None:
        yield pattern
        pattern = _pattern_behind(pattern)


def _pattern_behind(pattern):
    """Return the pattern of the same counts that comes next in the order, or None."""
    for index in range(len(pattern) - 2, -1, -1):
        if pattern[index] == 0 and pattern[index + 1] == 1:
            return pattern[:index] + (1,) + tuple(sorted(pattern[index + 2:] + (0,)))
    return None
