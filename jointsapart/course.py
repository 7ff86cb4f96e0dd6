"""Courses: rows of bricks, their joints, their order, and whether two of them are apart."""

from jointsapart.errors import BadCourse, BadJoints, BadLength, NoCourse, UnlikeLengths
from jointsapart.ratios import is_sequence, is_whole
from jointsapart.rows import number_of_row, row_numbered, rows_of, ways_on


def check_course(stock, course):
    """Return the course as a tuple, or raise BadCourse."""
    if not is_sequence(course, 1, 400):
        raise BadCourse(0, "many")
    for index, brick in enumerate(course):
        # True == 1, so `in` alone would take it for a brick.
        if not is_whole(brick) or brick not in stock.bricks:
            raise BadCourse(index, "brick")
    if length_of(course) > 400:
        raise BadCourse(0, "long")
    return tuple(course)


def course_flaw(stock, course, length=None):
    """Return "course" for what is no course, "length" for one of another length, else None.

    A length that is None does not bind.
    """
    try:
        row = check_course(stock, course)
    except BadCourse:
        return "course"
    return None if length is None or length_of(row) == length else "length"


def length_of(course):
    """Return the sum of the bricks."""
    return sum(course)


def joints_of(course):
    """Return the ascending places between the bricks."""
    joints = []
    place = 0
    for brick in course[:-1]:
        place += brick
        joints.append(place)
    return tuple(joints)


def mirrored_course(course):
    """Return the course from right to left."""
    return tuple(course[::-1])


def course_from(joints, length):
    """Return the row of bricks of this length that has just these joints."""
    check_length(length)
    if not _are_joints(joints, length):
        raise BadJoints()
    return tuple([right - left for left, right in zip([0, *joints], [*joints, length])])


def _are_joints(joints, length):
    if not is_sequence(joints, 0, length - 1):
        return False
    if not all([is_whole(joint, 1, length - 1) for joint in joints]):
        return False
    return all([left < right for left, right in zip(joints, joints[1:])])


def check_length(length, high=400):
    """Return a length that is a whole number from 1 to high, or raise BadLength."""
    if not is_whole(length, 1, high):
        raise BadLength()
    return length


def courses_of(stock, length):
    """Yield all courses of this length in ascending order."""
    check_length(length)
    bricks = stock.bricks
    ways = _course_ways(stock, length)
    yield from rows_of(bricks, ways)


def _course_ways(stock, length):
    return ways_on(stock.bricks, [True] * (length + 1))


def nth_course(stock, length, number):
    """Return the course of this length with this number in ascending order, from 0."""
    check_length(length)
    ways = _course_ways(stock, length)
    if not is_whole(number, 0, ways[0] - 1):
        raise NoCourse(number)
    return row_numbered(stock.bricks, ways, number)


def number_of(stock, course):
    """Return the number of a course among the courses of its length."""
    row = check_course(stock, course)
    return number_of_row(stock.bricks, _course_ways(stock, length_of(row)), row)


def count_courses(stock, length):
    """Return how many rows of bricks of the stock have this length, from 0 to 2000."""
    if not is_whole(length, 0, 2000):
        raise BadLength()
    return _course_ways(stock, length)[0]


def near_joints(lap, joints, others):
    """Yield each couple of a joint and another one that are less than the lap apart, in order."""
    first = 0
    for joint in joints:
        # Joints ascend, so what lies too far to the left stays so.
        while first < len(others) and others[first] <= joint - lap:
            first += 1
        at = first
        while at < len(others) and others[at] < joint + lap:
            yield joint, others[at]
            at += 1


def clash_of(stock, one, other):
    """Return the first couple of joints less than the lap apart, or None."""
    first = check_course(stock, one)
    second = check_course(stock, other)
    if length_of(first) != length_of(second):
        raise UnlikeLengths()
    joints = joints_of(first)
    others = joints_of(second)
    for couple in near_joints(stock.lap, joints, others):
        return couple
    return None


def are_apart(stock, one, other):
    """Tell whether each joint of the one course is at least the lap from each of the other."""
    return clash_of(stock, one, other) is None


def lot_flaw(stock, courses, low, high):
    """Return (number, word) that tell why these are not low to high courses of one length, pairwise apart, or None."""
    if not is_sequence(courses, low, high):
        return (0, "many")
    for number in range(len(courses)):
        word = _word_for(stock, courses, number)
        if word is not None:
            return (number, word)
    return None


def _word_for(stock, courses, number):
    """Return what is wrong with this course while those before it have no fault, or None."""
    course = courses[number]
    word = course_flaw(stock, course, length_of(courses[0]) if number > 0 else None)
    if word is None and not all([are_apart(stock, course, earlier) for earlier in courses[:number]]):
        return "clash"
    return word
