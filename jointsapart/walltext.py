"""Texts and pictures of walls."""

from jointsapart.course import course_from, joints_of, length_of
from jointsapart.errors import BadText
from jointsapart.stocktext import check_text, course_in, course_text, course_told
from jointsapart.walls import Wall


def wall_text(wall):
    """Return one row a course, the lowest course first."""
    return "\n".join([course_text(course) for course in wall.courses])


def wall_of(stock, text):
    """Return the wall that has this text, or raise BadText."""
    courses = []
    for number, row in enumerate(_rows_in(text)):
        course = course_in(stock, row, number)
        _check_like(courses, course, number)
        courses.append(course)
    return Wall(stock, courses)


def _rows_in(text):
    check_text(text)
    rows = text.split("\n")
    if len(rows) > 60:
        raise BadText(0, "many")
    return rows


def _check_like(courses, course, number):
    if courses and length_of(course) != length_of(courses[0]):
        raise BadText(number, "length")


def wall_picture(wall):
    """Return the wall as it is seen: one row a course, the topmost course first."""
    return "\n".join([_course_picture(course) for course in wall.courses[::-1]])


def _course_picture(course):
    length = length_of(course)
    signs = ["_"] * (2 * length + 1)
    for place in (0, *joints_of(course), length):
        signs[2 * place] = "|"
    return "".join(signs)


def wall_seen(stock, text):
    """Return the wall that has this picture, or raise BadText."""
    courses = []
    for number, row in enumerate(_rows_in(text)):
        if not _is_picture(row):
            raise BadText(number, "shape")
        course = course_told(stock, _bricks_seen(row), number)
        _check_like(courses, course, number)
        courses.append(course)
    return Wall(stock, courses[::-1])


def _is_picture(row):
    """Tell whether this row shows a course of some length from 1 to 400, whatever its bricks are."""
    if len(row) % 2 == 0 or not 3 <= len(row) <= 801:
        return False
    between = row[1::2]
    places = row[::2]
    if between != "_" * len(between) or not all([sign in "|_" for sign in places]):
        return False
    return places[0] == "|" and places[-1] == "|"


def _bricks_seen(row):
    places = [place for place, sign in enumerate(row[::2]) if sign == "|"]
    return course_from(places[1:-1], places[-1])
