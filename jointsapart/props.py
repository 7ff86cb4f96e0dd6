"""The least bundles that prop a brick, and the least ones that bring it down if they are taken."""

from jointsapart.parts import in_order, least_among
from jointsapart.readers import check_few_bricks
from jointsapart.shares import check_brick
from jointsapart.takings import bearers_of, left_after


class Weakest:
    """The first least bundle that brings a topmost brick down, and the topmost bricks that come down then."""

    def __init__(self, bundle, fallen):
        self.bundle = bundle
        self.fallen = fallen


def least_props(wall, brick, *, most=14):
    """Return all props of the brick of which no lesser part is a prop."""
    check_brick(wall, brick)
    check_few_bricks(wall, most)
    return _props_of(wall, brick)


def _props_of(wall, brick):
    # Each least prop comes of the brick by choosing, course by course, no more bearers than must be.
    props = [(brick,)]
    for course in range(brick[0], 0, -1):
        props = least_among([bundle for prop in props for bundle in _with_bearers(wall, prop, course)])
    return tuple(props)


def _with_bearers(wall, prop, course):
    """Return the bundles that a prop of the courses from this one on can become by bearers in the course under it."""
    bundles = [()]
    for upper in [brick for brick in prop if brick[0] == course]:
        choices = _choices_under(wall, upper)
        bundles = least_among([(*bundle, *choice) for bundle in bundles for choice in choices])
    return [(*bundle, *prop) for bundle in bundles]


def _choices_under(wall, brick):
    """Return couples of bricks under this one that bear it left and right of its middle; the two may be one brick."""
    rows = bearers_of(wall, brick)
    return [(one[0], other[0]) for one in rows if one[1] for other in rows if other[2]]


def least_takings(wall, brick, *, most=14):
    """Return all takings of the brick of which no lesser part is a taking."""
    check_brick(wall, brick)
    check_few_bricks(wall, most)
    return _takings_of(wall, brick)


def _takings_of(wall, brick):
    # A taking has a brick in common with each least prop, but not the brick itself.
    takings = [()]
    for prop in _props_of(wall, brick):
        others = [other for other in prop if other != brick]
        takings = least_among([taking if _have_common(taking, others) else (*taking, other)
                                for taking in takings for other in others])
    return tuple(takings)


def _have_common(one, other):
    return any([brick in other for brick in one])


def fewest_takings(wall, *, most=14):
    """Return the Weakest of the wall, or None if it has one course."""
    check_few_bricks(wall, most)
    top = len(wall) - 1
    if top == 0:
        return None
    takings = [taking for number in range(len(wall.courses[top])) for taking in _takings_of(wall, (top, number))]
    bundle = in_order(takings)[0]
    return Weakest(bundle, tuple([brick for brick in left_after(wall, bundle)[1] if brick[0] == top]))
