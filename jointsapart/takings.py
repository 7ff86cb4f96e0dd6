"""Taken bricks: what rests on what, what comes down, and orders in which nothing does."""

from jointsapart.errors import BadBundle
from jointsapart.shares import check_brick, is_brick


class Falls:
    """The first brick that comes down if a bundle is taken."""

    def __init__(self, brick):
        self.brick = brick


def check_bundle(wall, bundle):
    """Return the bundle as an ascending tuple, or raise BadBundle."""
    if not isinstance(bundle, (list, tuple)):
        raise BadBundle(0)
    seen = {}
    for index, brick in enumerate(bundle):
        if not is_brick(wall, brick) or brick in seen:
            raise BadBundle(index)
        seen[brick] = True
    return tuple(sorted(list(seen)))


def all_bricks(wall):
    """Return all bricks of the wall in ascending order."""
    return [(course, number) for course, row in enumerate(wall.courses) for number in range(len(row))]


def bearers_of(wall, brick):
    """Return rows (brick, at left, at right) for the bricks right under this one.

    They tell whether it is borne at some place at or left of its middle, and at or right of it.
    """
    course, number = brick
    left = sum(wall.courses[course][:number])
    right = left + wall.courses[course][number]
    rows = []
    end = 0
    for at, length in enumerate(wall.courses[course - 1]):
        start = end
        end += length
        if start < right and end > left:
            rows.append(((course - 1, at), 2 * max(start, left) <= left + right, 2 * min(end, right) >= left + right))
    return rows


def rests_on(wall, brick, bundle):
    """Tell whether the brick rests on the bricks that are keys of this dict."""
    if brick[0] == 0:
        return True
    rows = [row for row in bearers_of(wall, brick) if row[0] in bundle]
    return any([row[1] for row in rows]) and any([row[2] for row in rows])


def does_rest(wall, brick, bundle):
    """Tell whether the brick rests on the bundle."""
    check_brick(wall, brick)
    return rests_on(wall, brick, {other: True for other in check_bundle(wall, bundle)})


def is_steady(wall, bundle):
    """Tell whether each brick of the bundle rests on it."""
    bricks = {brick: True for brick in check_bundle(wall, bundle)}
    return all([rests_on(wall, brick, bricks) for brick in bricks])


def left_after(wall, taken):
    """Return the bricks that are left when a bundle is taken, and those that come down."""
    gone = {brick: True for brick in check_bundle(wall, taken)}
    left = {}
    down = []
    # What rests on the bricks that stay under it stays, too, so one way up tells all.
    for brick in all_bricks(wall):
        if brick not in gone and rests_on(wall, brick, left):
            left[brick] = True
        elif brick not in gone:
            down.append(brick)
    return (tuple(left), tuple(down))


def take_order(wall, bundle):
    """Return an order in which nothing comes down when the bundle is taken brick by brick, or Falls."""
    bricks = check_bundle(wall, bundle)
    down = left_after(wall, bricks)[1]
    # Higher courses first: no brick is taken from under one that is taken later.
    return Falls(down[0]) if down else bricks[::-1]


def order_fault(wall, order):
    """Return the word that tells what is wrong with an order in which bricks are taken, or None."""
    try:
        check_bundle(wall, order)
    except BadBundle:
        return "bricks"
    left = {brick: True for brick in all_bricks(wall)}
    for brick in order:
        del left[brick]
        if not all([rests_on(wall, upper, left) for upper in _bricks_upon(wall, brick) if upper in left]):
            return "falls"
    return None


def _bricks_upon(wall, brick):
    """Return the bricks right upon this one."""
    course, number = brick
    if course == len(wall) - 1:
        return []
    left = sum(wall.courses[course][:number])
    right = left + wall.courses[course][number]
    upon = []
    end = 0
    for at, length in enumerate(wall.courses[course + 1]):
        start = end
        end += length
        if start < right and end > left:
            upon.append((course + 1, at))
    return upon
