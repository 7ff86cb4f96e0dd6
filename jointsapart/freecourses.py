"""The courses that can lie at a number of a wall beside its other courses."""

from jointsapart.course import joints_of
from jointsapart.rows import first_row, rows_of, ways_on
from jointsapart.wallwork import check_number


def free_courses(wall, number):
    """Yield all courses that are free at this number, in ascending order."""
    bricks = wall.stock.bricks
    ways = _free_ways(wall, number)
    yield from rows_of(bricks, ways)


def count_free(wall, number):
    """Return how many courses are free at this number."""
    return _free_ways(wall, number)[0]


def first_free(wall, number):
    """Return the first course that is free at this number, or None."""
    ways = _free_ways(wall, number)
    return first_row(wall.stock.bricks, ways) if ways[0] > 0 else None


def _free_ways(wall, number):
    check_number(wall, number)
    return ways_on(wall.stock.bricks, _allowed_places(wall, number))


def _allowed_places(wall, number):
    """Return for each place whether a joint there is the lap from all joints of the near courses."""
    lap = wall.stock.lap
    allowed = [True] * (wall.length + 1)
    for near in _near_courses(wall, number):
        for joint in joints_of(near):
            # The two ends are no joints, so they stay allowed.
            for place in range(max(1, joint - lap + 1), min(wall.length, joint + lap)):
                allowed[place] = False
    return allowed


def _near_courses(wall, number):
    reach = wall.stock.reach
    return wall.courses[max(0, number - reach):number] + wall.courses[number + 1:number + reach + 1]
