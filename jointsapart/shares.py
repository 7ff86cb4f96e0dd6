"""Shares: how much of what a topmost brick is handed gets to a brick of the wall."""

from jointsapart.errors import BadBrick, BadTotal, NoNumber
from jointsapart.loads import check_weight, common_lengths, handed_down, is_amount, loads_below
from jointsapart.ratios import ZERO, common_multiple, greatest_of, is_whole, least_of, make_ratio, plus, times


class Extreme:
    """A greatest or least load, and the number of the first topmost brick that is handed the whole sum for it."""

    def __init__(self, load, number):
        self.load = load
        self.number = number


def is_brick(wall, thing):
    """Tell whether this is a tuple (course, number) of a brick of the wall."""
    if not isinstance(thing, tuple) or len(thing) != 2:
        return False
    course, number = thing
    return is_whole(course, 0, len(wall) - 1) and is_whole(number, 0, len(wall.courses[course]) - 1)


def check_brick(wall, brick):
    """Return the brick, or raise BadBrick."""
    if not is_brick(wall, brick):
        raise BadBrick(brick)
    return brick


def shares_of(wall, brick):
    """Return for each topmost brick the share of what it is handed that gets to this brick."""
    first, number = check_brick(wall, brick)
    parts = 1
    got = [1 if other == number else 0 for other in range(len(wall.courses[first]))]
    for lower, upper in zip(wall.courses[first:], wall.courses[first + 1:]):
        got, smaller = _handed_up(upper, lower, got)
        parts = parts * smaller
    return tuple([make_ratio(amount, parts) for amount in got])


def _handed_up(upper, lower, amounts):
    """Return the shares of the bricks of the upper course, and in how much smaller parts they are counted."""
    smaller = common_multiple(upper)
    shares = [0] * len(upper)
    for above, below, common in common_lengths(upper, lower):
        shares[above] += amounts[below] * common * (smaller // upper[above])
    return shares, smaller


def share_rows(wall):
    """Return for each topmost brick the shares of what it is handed that get to the foot bricks."""
    return tuple([_shares_down(wall, number) for number in range(len(wall.courses[-1]))])


def _shares_down(wall, number):
    """Return the shares of what this topmost brick is handed that get to the foot bricks."""
    courses = wall.courses[::-1]
    parts = 1
    amounts = [1 if other == number else 0 for other in range(len(courses[0]))]
    for upper, lower in zip(courses, courses[1:]):
        amounts, smaller = handed_down(upper, lower, amounts)
        parts = parts * smaller
    return tuple([make_ratio(amount, parts) for amount in amounts])


def spread_of(wall, number):
    """Return the numbers of the first and the last foot brick that get a share above 0 of this topmost brick."""
    if not is_whole(number, 0, len(wall.courses[-1]) - 1):
        raise NoNumber(number)
    courses = wall.courses[::-1]
    first = last = number
    for upper, lower in zip(courses, courses[1:]):
        under = [below for above, below, _ in common_lengths(upper, lower) if first <= above <= last]
        first = under[0]
        last = under[-1]
    return (first, last)


def heaviest_load(wall, brick, total, weight):
    """Return the Extreme of the greatest load of the brick over all loads with this sum."""
    shares, own = _shares_and_own(wall, brick, total, weight)
    return _extreme(shares, own, total, greatest_of(shares))


def lightest_load(wall, brick, total, weight):
    """Return the Extreme of the least load of the brick over all loads with this sum."""
    shares, own = _shares_and_own(wall, brick, total, weight)
    return _extreme(shares, own, total, least_of(shares))


def _shares_and_own(wall, brick, total, weight):
    """Return the shares that get to the brick and its load with all loads 0, or raise what is due."""
    shares = shares_of(wall, brick)
    if not is_amount(total):
        raise BadTotal()
    check_weight(weight)
    rows = loads_below(wall, (ZERO,) * len(wall.courses[-1]), weight)
    return shares, rows[brick[0]][brick[1]]


def _extreme(shares, own, total, share):
    # A sum of 0 can be handed to any brick.
    number = 0 if total == ZERO else shares.index(share)
    return Extreme(plus(own, times(total, share)), number)
