"""Loads: what the bricks of a wall are handed from above and hand on to those under them."""

from jointsapart.errors import BadLoads, BadPressure, BadWeight
from jointsapart.ratios import ZERO, common_multiple, compare, is_ratio, is_sequence, make_ratio, times


def is_amount(thing):
    """Tell whether this is a ratio from 0."""
    return is_ratio(thing) and compare(thing, ZERO) >= 0


def check_loads(wall, loads):
    """Return the loads of the topmost bricks as a tuple, or raise BadLoads."""
    many = len(wall.courses[-1])
    if not is_sequence(loads, many, many):
        raise BadLoads(0, "many")
    for index, load in enumerate(loads):
        if not is_amount(load):
            raise BadLoads(index, "load")
    return tuple(loads)


def check_weight(weight):
    """Return the weight of one unit of brick, or raise BadWeight."""
    if not is_amount(weight):
        raise BadWeight()
    return weight


def common_lengths(upper, lower):
    """Return rows (brick of the upper course, brick of the lower one, common length) of all that lie on one another."""
    rows = []
    above = 0
    below = 0
    left_above = upper[0]
    left_below = lower[0]
    while above < len(upper):
        common = min(left_above, left_below)
        rows.append((above, below, common))
        left_above -= common
        left_below -= common
        if left_above == 0:
            above += 1
            left_above = upper[above] if above < len(upper) else 0
        if left_below == 0:
            below += 1
            left_below = lower[below] if below < len(lower) else 0
    return rows


def handed_down(upper, lower, amounts):
    """Return what the bricks of the lower course are handed, and in how much smaller parts it is counted.

    The amounts that the bricks of the upper course hand on are whole numbers of parts, and so is what is returned.
    """
    smaller = common_multiple(upper)
    handed = [0] * len(lower)
    for above, below, common in common_lengths(upper, lower):
        handed[below] += amounts[above] * common * (smaller // upper[above])
    return handed, smaller


def load_rows(wall, loads, weight):
    """Return the loads of all bricks, a row for each course, lowest course first."""
    return loads_below(wall, check_loads(wall, loads), check_weight(weight))


def loads_below(wall, loads, weight):
    """Return what load_rows does, for what needs no check."""
    parts = common_multiple([ratio[1] for ratio in (*loads, weight)])
    rest = weight[0] * (parts // weight[1])
    handed = [load[0] * (parts // load[1]) for load in loads]
    rows = []
    for number in range(len(wall) - 1, -1, -1):
        course = wall.courses[number]
        borne = [amount + rest * brick for amount, brick in zip(handed, course)]
        rows.append(tuple([make_ratio(amount, parts) for amount in borne]))
        if number > 0:
            handed, smaller = handed_down(course, wall.courses[number - 1], borne)
            parts = parts * smaller
            rest = rest * smaller
    return tuple(rows[::-1])


def feet_of(wall, loads, weight):
    """Return the loads of the foot bricks."""
    return load_rows(wall, loads, weight)[0]


def even_loads(wall, pressure):
    """Return the loads in which each topmost brick is handed the pressure times its length."""
    if not is_amount(pressure):
        raise BadPressure()
    return tuple([times(pressure, make_ratio(brick)) for brick in wall.courses[-1]])
