"""Walls, their clashes, and whether they are right."""

from jointsapart.course import course_flaw, joints_of, length_of, near_joints
from jointsapart.errors import BadWall, NotRight
from jointsapart.ratios import is_sequence


class Wall:
    """Courses of one length, laid on one another, the lowest first; it need not be right."""

    def __init__(self, stock, courses):
        self.stock = stock
        self.courses = _checked_courses(stock, courses)
        self.length = length_of(self.courses[0])

    def __len__(self):
        return len(self.courses)

    def __eq__(self, other):
        return isinstance(other, Wall) and self.stock == other.stock and self.courses == other.courses


class Clash:
    """A joint of a lower course and one of an upper course that are less than the lap apart."""

    def __init__(self, lower, upper, joint, other):
        self.lower = lower
        self.upper = upper
        self.joint = joint
        self.other = other

    def __eq__(self, other):
        return (isinstance(other, Clash) and self.lower == other.lower and self.upper == other.upper
                and self.joint == other.joint and self.other == other.other)


def _checked_courses(stock, courses):
    if not is_sequence(courses, 1, 60):
        raise BadWall(0, "many")
    checked = [course_for(stock, courses[0], 0)]
    for number in range(1, len(courses)):
        checked.append(course_for(stock, courses[number], number, length_of(checked[0])))
    return tuple(checked)


def course_for(stock, course, number, length=None):
    """Return the course as a tuple, or raise BadWall with this number of a course."""
    flaw = course_flaw(stock, course, length)
    if flaw is not None:
        raise BadWall(number, flaw)
    return tuple(course)


def clashes_between(stock, courses, lower, upper):
    """Yield the clashes between two of the courses, by joint, then by other."""
    joints = joints_of(courses[lower])
    others = joints_of(courses[upper])
    for joint, other in near_joints(stock.lap, joints, others):
        yield Clash(lower, upper, joint, other)


def clashes_of(stock, courses):
    """Yield all clashes of these courses, laid on one another, by upper, lower, joint and other."""
    for upper in range(len(courses)):
        for lower in range(max(0, upper - stock.reach), upper):
            yield from clashes_between(stock, courses, lower, upper)


def all_clashes(wall):
    """Yield all clashes by upper, lower, joint and other."""
    yield from clashes_of(wall.stock, wall.courses)


def first_clash(wall):
    """Return the first clash, or None."""
    for clash in all_clashes(wall):
        return clash
    return None


def is_right(wall):
    """Tell whether the wall has no clash."""
    return first_clash(wall) is None


def check_right(wall):
    """Return this very wall if it is right, or raise NotRight."""
    if not is_right(wall):
        raise NotRight()
    return wall
