"""Texts of one row: a stock, a course."""

from jointsapart.course import check_course
from jointsapart.errors import BadCourse, BadStock, BadText
from jointsapart.ratios import are_figures
from jointsapart.stock import Stock


def stock_text(stock):
    """Return the stock as a text, as in "2 3 lap 1 reach 1"."""
    return f"{course_text(stock.bricks)} lap {stock.lap} reach {stock.reach}"


def course_text(course):
    """Return the bricks with one blank between them."""
    return " ".join([str(brick) for brick in course])


def stock_of(text):
    """Return the stock that has this text, or raise BadText."""
    check_text(text)
    words = text.split(" ")
    # The last four words are "lap", a numeral, "reach", a numeral.
    bricks = _numbers_of(words[:-4])
    values = _numbers_of(words[-3::2])
    if bricks is None or values is None or words[-4::2] != ["lap", "reach"]:
        raise BadText(0, "shape")
    try:
        return Stock(bricks, values[0], values[1])
    except BadStock:
        raise BadText(0, "stock") from None


def course_of(stock, text):
    """Return the course that has this text, or raise BadText."""
    check_text(text)
    return course_in(stock, text, 0)


def check_text(text):
    """Raise BadText if this is no string."""
    if not isinstance(text, str):
        raise BadText(0, "text")


def course_in(stock, row, number):
    """Return the course that this row of a text tells; an error bears the row's number."""
    bricks = _numbers_of(row.split(" "))
    if bricks is None:
        raise BadText(number, "shape")
    return course_told(stock, bricks, number)


def course_told(stock, bricks, number):
    """Return the course of bricks that a row of a text tells, or raise BadText."""
    try:
        return check_course(stock, bricks)
    except BadCourse:
        raise BadText(number, "course") from None


def _numbers_of(words):
    """Return the numbers of one or more numerals, or None for other words."""
    if not words or not all([_is_numeral(word) for word in words]):
        return None
    return [int(word) for word in words]


def _is_numeral(word):
    return are_figures(word, 3) and word[0] != "0"
