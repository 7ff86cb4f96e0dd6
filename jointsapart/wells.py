"""Wells: walls that are closed round, so that their courses have a girth but no ends."""

from jointsapart.calendars import calendar_from
from jointsapart.course import check_length, count_courses, courses_of, joints_of
from jointsapart.ends import ends_behind
from jointsapart.errors import BadWell, NoNumber, UnlikeGirths
from jointsapart.graphs import Graph
from jointsapart.ratios import is_sequence, is_whole
from jointsapart.repeating import ring_within, without_first


class WellCourse:
    """The bricks of a course that is closed round, from its least joint `turning` on."""

    def __init__(self, turning, bricks):
        if not is_sequence(bricks, 1, 60) or not all([is_whole(brick, 1, 8) for brick in bricks]):
            raise BadWell("bricks")
        if not is_whole(turning, 0, bricks[-1] - 1):
            raise BadWell("turning")
        self.turning = turning
        self.bricks = tuple(bricks)
        self.girth = sum(bricks)

    def __eq__(self, other):
        return isinstance(other, WellCourse) and self.turning == other.turning and self.bricks == other.bricks

    @property
    def joints(self):
        """The ascending places of the joints, one a brick."""
        return tuple([self.turning + place for place in (0, *joints_of(self.bricks))])


def turn_well(course, by):
    """Return the well course with each joint moved on by so many places round the well."""
    if not is_whole(by, -10 ** 30, 10 ** 30):
        raise NoNumber(by)
    places = sorted([(joint + by) % course.girth for joint in course.joints])
    ends = [*places[1:], places[0] + course.girth]
    return WellCourse(places[0], [end - place for place, end in zip(places, ends)])


def well_courses(stock, girth):
    """Yield all well courses of this girth, by turning, then by bricks."""
    check_length(girth, 12)
    for turning in range(stock.longest):
        for bricks in courses_of(stock, girth):
            if bricks[-1] > turning:
                yield WellCourse(turning, bricks)


def count_well_courses(stock, girth):
    """Return how many well courses of this girth, from 1 to 2000, there are."""
    check_length(girth, 2000)
    # The last brick can be turned by each whole number below its length.
    return sum([brick * count_courses(stock, girth - brick) for brick in stock.bricks if brick <= girth])


def well_clash(stock, one, other):
    """Return the first couple of joints less than the lap apart by the lesser way round, or None."""
    if one.girth != other.girth:
        raise UnlikeGirths()
    for joint in one.joints:
        for place in other.joints:
            way = abs(joint - place)
            if min(way, one.girth - way) < stock.lap:
                return (joint, place)
    return None


def well_round(stock, girth):
    """Return the first reach + 1 well courses that are pairwise apart, or None."""
    check_length(girth, 12)
    courses = list(well_courses(stock, girth))
    rows = [(sum([1 << joint for joint in course.joints]), _near_bits(stock, course)) for course in courses]
    numbers = _first_lot(rows, stock.reach + 1, 0, {})
    return None if numbers is None else tuple([courses[number] for number in numbers])


def _near_bits(stock, course):
    """Return the bits of the places less than the lap from a joint of the course, round the well."""
    near = {(joint + by) % course.girth: True for joint in course.joints for by in range(1 - stock.lap, stock.lap)}
    return sum([1 << place for place in near])


def _first_lot(rows, size, barred, failed):
    """Return the first numbers of so many rows that are pairwise apart and have no barred joint, or None.

    They come out ascending, since any order of them would do. What has `failed` is not tried again.
    """
    if size == 0:
        return ()
    if (size, barred) in failed:
        return None
    for number, (joints, near) in enumerate(rows):
        if not joints & barred:
            others = _first_lot(rows, size - 1, barred | near, failed)
            if others is not None:
                return (number, *others)
    failed[size, barred] = True
    return None


def well_calendar(stock):
    """Return the calendar of all girths that have a round of well courses."""
    graph = Graph(_ages_apart(stock), lambda couples: ends_behind(stock, couples))
    kept = graph.lasting()
    numbers = [number for number in range(len(graph.things)) if kept >> number & 1]
    firsts = tuple([1 << number if kept >> number & 1 else 0 for number in range(len(graph.things))])
    # In the row of a thing behind n units are the bits of all that comes of it in n units.
    ring = without_first(ring_within(firsts, lambda rows: _rows_behind(graph, rows)))
    answers = [any([rows[number] >> number & 1 for number in numbers]) for rows in ring.things]
    return calendar_from([False, *answers], ring.back + 1)


def _ages_apart(stock):
    """Return all couples in order, none fresh, of reach + 1 courses whose ages are at least the lap apart."""
    found = [()]
    for _ in range(stock.reach + 1):
        found = [(*couples, (age, False)) for couples in found for age in range(stock.longest)
                 if all([abs(age - other) >= stock.lap for other, _ in couples])]
    return found


def _rows_behind(graph, rows):
    """Return for each thing the bits of all that comes of it in one unit more."""
    behind = []
    for steps in graph.steps:
        bits = 0
        for number in steps:
            bits = bits | rows[number]
        behind.append(bits)
    return tuple(behind)
