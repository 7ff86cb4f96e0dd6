"""Whole numbers, sequences and ratios: tuples (top, bottom) in lowest terms."""

from math import gcd, lcm

from jointsapart.errors import BadRatio

ZERO = (0, 1)
ONE = (1, 1)


def is_whole(thing, low=None, high=None):
    """Tell whether this is a whole number from low to high; None does not bind."""
    # True and False are ints to Python, but no whole numbers.
    if not isinstance(thing, int) or isinstance(thing, bool):
        return False
    return (low is None or thing >= low) and (high is None or thing <= high)


def is_sequence(thing, low, high):
    """Tell whether this is a list or a tuple of low to high entries."""
    return isinstance(thing, (list, tuple)) and low <= len(thing) <= high


def as_tuples(thing):
    """Return the thing with a tuple in the place of each list, at any depth."""
    if isinstance(thing, (list, tuple)):
        return tuple([as_tuples(part) for part in thing])
    return thing


def common_multiple(numbers):
    """Return the least common multiple of whole numbers from 1 on, 1 for none."""
    multiple = 1
    for number in numbers:
        multiple = lcm(multiple, number)
    return multiple


def is_ratio(thing):
    """Tell whether this is a tuple of two whole numbers in lowest terms, the bottom 1 or more."""
    if not isinstance(thing, tuple) or len(thing) != 2:
        return False
    top, bottom = thing
    return is_whole(top) and is_whole(bottom, 1) and gcd(top, bottom) == 1


def make_ratio(top, bottom=1):
    """Return the ratio of two whole numbers, or raise BadRatio."""
    if not is_whole(top):
        raise BadRatio("top")
    if not is_whole(bottom) or bottom == 0:
        raise BadRatio("bottom")
    return _lowest(top, bottom)


def _lowest(top, bottom):
    shared = gcd(top, bottom)
    if bottom < 0:
        shared = -shared
    return (top // shared, bottom // shared)


def plus(one, other):
    """Return the sum of two ratios."""
    return _lowest(one[0] * other[1] + other[0] * one[1], one[1] * other[1])


def minus(one, other):
    """Return the first ratio less the second."""
    return plus(one, negative(other))


def times(one, other):
    """Return the product of two ratios."""
    return _lowest(one[0] * other[0], one[1] * other[1])


def over(one, other):
    """Return the first ratio by the second, or raise BadRatio."""
    if other[0] == 0:
        raise BadRatio("zero")
    return _lowest(one[0] * other[1], one[1] * other[0])


def negative(one):
    """Return the ratio with the opposite sign."""
    return (-one[0], one[1])


def compare(one, other):
    """Return -1, 0 or 1 as the first ratio is less than, equal to or greater than the second."""
    left = one[0] * other[1]
    right = other[0] * one[1]
    if left == right:
        return 0
    return -1 if left < right else 1


def sum_of(ratios):
    """Return the sum of a sequence of ratios."""
    total = ZERO
    for ratio in ratios:
        total = plus(total, ratio)
    return total


def least_of(ratios):
    """Return the least ratio of a sequence that is not empty."""
    least = ratios[0]
    for ratio in ratios[1:]:
        if compare(ratio, least) < 0:
            least = ratio
    return least


def greatest_of(ratios):
    """Return the greatest ratio of a sequence that is not empty."""
    greatest = ratios[0]
    for ratio in ratios[1:]:
        if compare(ratio, greatest) > 0:
            greatest = ratio
    return greatest


def ratio_text(ratio):
    """Return the ratio as a text; a bottom of 1 is not written."""
    top, bottom = ratio
    return f"{top}" if bottom == 1 else f"{top}/{bottom}"


def are_figures(text, most):
    """Tell whether a text consists of 1 to `most` figures from 0 to 9."""
    return 1 <= len(text) <= most and all([sign in "0123456789" for sign in text])


def ratio_of(text):
    """Return the ratio that has this text, or raise BadRatio."""
    if not isinstance(text, str):
        raise BadRatio("text")
    top, slash, bottom = text.partition("/")
    if not slash:
        bottom = "1"
    if not are_figures(top.removeprefix("-"), 300) or not are_figures(bottom, 300):
        raise BadRatio("text")
    ratio = (int(top), int(bottom))
    # Writing it back refuses "-0", leading noughts and "3/1" at once.
    if not is_ratio(ratio) or ratio_text(ratio) != text:
        raise BadRatio("text")
    return ratio
