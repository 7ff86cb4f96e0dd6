"""Walls made from walls: piles, parts, turned walls and exchanged courses."""

from jointsapart.course import mirrored_course
from jointsapart.errors import CannotPile, NoCourses, NoNumber
from jointsapart.ratios import is_whole
from jointsapart.walls import Wall, clashes_between, course_for


def piled(one, other):
    """Return the wall with the courses of the one below and those of the other above."""
    check_alike(one, other)
    if len(one) + len(other) > 60:
        raise CannotPile("many")
    return Wall(one.stock, one.courses + other.courses)


def check_alike(one, other):
    """Raise CannotPile unless the two walls have one stock and one length."""
    if one.stock != other.stock:
        raise CannotPile("stock")
    if one.length != other.length:
        raise CannotPile("length")


def seam_clash(one, other):
    """Return the first clash between a course of the one and a course of the other in their pile, or None."""
    check_alike(one, other)
    stock = one.stock
    courses = one.courses + other.courses
    seam = len(one)
    for upper in range(seam, min(seam + stock.reach, len(courses))):
        for lower in range(max(0, upper - stock.reach), seam):
            for clash in clashes_between(stock, courses, lower, upper):
                return clash
    return None


def part_of(wall, first, last):
    """Return the wall of the courses first to last, both included."""
    if not is_whole(last, 0, len(wall) - 1) or not is_whole(first, 0, last):
        raise NoCourses()
    return Wall(wall.stock, wall.courses[first:last + 1])


def wall_mirrored(wall):
    """Return the wall with each course from right to left."""
    return Wall(wall.stock, [mirrored_course(course) for course in wall.courses])


def upturned(wall):
    """Return the wall with its courses in reverse order."""
    return Wall(wall.stock, wall.courses[::-1])


def check_number(wall, number):
    """Return the number of a course of the wall, or raise NoNumber."""
    if not is_whole(number, 0, len(wall) - 1):
        raise NoNumber(number)
    return number


def with_course(wall, number, course):
    """Return the wall with this course in the place of course `number`."""
    check_number(wall, number)
    courses = list(wall.courses)
    courses[number] = course_for(wall.stock, course, number, wall.length)
    return Wall(wall.stock, courses)


def exchanged(wall, first, second):
    """Return the wall with these two courses exchanged."""
    check_number(wall, first)
    check_number(wall, second)
    courses = list(wall.courses)
    courses[first] = wall.courses[second]
    courses[second] = wall.courses[first]
    return Wall(wall.stock, courses)
