"""The sides of towers: what their courses do at the corners, and which sides serve every height."""

from jointsapart.calendars import calendar_from
from jointsapart.course import course_flaw, joints_of, length_of, near_joints
from jointsapart.ends import ends_behind
from jointsapart.errors import BadBreadth, BadCorners, BadFace, BadLength, UnlikeLengths
from jointsapart.graphs import Graph
from jointsapart.ratios import is_sequence, is_whole
from jointsapart.repeating import ring_within, without_first
from jointsapart.rows import rows_of, ways_on
from jointsapart.stands import can_finish, first_stand, unit_steps

EXCHANGED = {"p": "b", "b": "p", "m": "m"}


def check_breadth(breadth):
    """Return a whole number from 1 to 4, or raise BadBreadth."""
    if not is_whole(breadth, 1, 4):
        raise BadBreadth()
    return breadth


def check_side(breadth, side, high):
    """Return a side that has a place between its corners and is at most `high`, or raise BadLength."""
    if not is_whole(side, 2 * breadth + 1, high):
        raise BadLength()
    return side


def is_corner_word(thing):
    """Tell whether this is a text of 2 to 6 of the letters p, b and m."""
    return isinstance(thing, str) and 2 <= len(thing) <= 6 and all([letter in EXCHANGED for letter in thing])


def check_corners(corners):
    """Return a corner word, or raise BadCorners."""
    if not is_corner_word(corners):
        raise BadCorners()
    return corners


def standard_corners(stock):
    """Return the standard word of the stock's reach."""
    return "pb" if stock.reach == 1 else "pbm"


def exchange_corners(corners):
    """Return the corner word of the neighbouring sides."""
    return "".join([EXCHANGED[letter] for letter in check_corners(corners)])


def corner_clash(stock, corners):
    """Return the first two places, at most the reach apart, at which the word laid again and again butts, or None."""
    word = check_corners(corners)
    many = len(word)
    for first in range(many):
        for second in range(first + 1, first + stock.reach + 1):
            if word[first] == "b" and word[second % many] == "b":
                return (first, second)
    return None


def course_length(breadth, side, letter):
    """Return how long the course of a side with this letter is."""
    return side - 2 * breadth if letter == "b" else side


def face_joints(breadth, face):
    """Return the ascending joints of a face, as places of the side."""
    check_breadth(breadth)
    letter, course = face
    joints = joints_of(course)
    if letter != "b":
        return joints
    return (breadth, *[breadth + joint for joint in joints], breadth + length_of(course))


def _check_face(stock, breadth, face):
    """Return the side of a face, or raise BadFace."""
    if not is_sequence(face, 2, 2):
        raise BadFace("face")
    letter, course = face
    if not isinstance(letter, str) or letter not in EXCHANGED:
        raise BadFace("letter")
    if course_flaw(stock, course) is not None:
        raise BadFace("course")
    return length_of(course) + (2 * breadth if letter == "b" else 0)


def side_clash(stock, breadth, one, other):
    """Return the first couple of joints of two faces of one side that are less than the lap apart, or None."""
    check_breadth(breadth)
    if _check_face(stock, breadth, one) != _check_face(stock, breadth, other):
        raise UnlikeLengths()
    joints = face_joints(breadth, one)
    others = face_joints(breadth, other)
    for couple in near_joints(stock.lap, joints, others):
        return couple
    return None


def side_round(stock, breadth, side):
    """Return the first courses with the letters of the standard word whose faces are pairwise apart, or None."""
    check_breadth(breadth)
    check_side(breadth, side, 12)
    return _courses_beside(stock, breadth, side, standard_corners(stock), ())


def _courses_beside(stock, breadth, side, letters, joints):
    """Return the first courses with these letters whose faces are apart from these joints and pairwise, or None."""
    if not letters:
        return ()
    bricks = stock.bricks
    ways = _ways_beside(stock, breadth, side, letters[0], joints)
    for course in rows_of(bricks, ways):
        beside = (*joints, *face_joints(breadth, (letters[0], course)))
        others = _courses_beside(stock, breadth, side, letters[1:], beside)
        if others is not None:
            return (course, *others)
    return None


def _ways_beside(stock, breadth, side, letter, joints):
    """Return the ways on, from each place of a course with this letter, that keep apart from these joints."""
    begin = breadth if letter == "b" else 0
    end = side - begin
    free = [all([abs(place - joint) >= stock.lap for joint in joints]) for place in range(begin, end + 1)]
    # The ends of a butting course are joints, those of the others are none.
    if letter == "b" and not (free[0] and free[-1]):
        return [0] * len(free)
    return ways_on(stock.bricks, [True, *free[1:]])


def side_calendar(stock, breadth):
    """Return the calendar of all sides above 2 * breadth that serve every height by the standard word."""
    check_breadth(breadth)
    graph = Graph(_ends_at_corner(stock, breadth), lambda couples: ends_behind(stock, couples))
    closing = graph.where(lambda couples: couples[1] == (0, False) and _closes(stock, breadth, couples))
    # The two corner joints of a butting course are at least a unit from one another.
    ring = without_first(ring_within(graph.firsts, lambda bits: graph.coming_of(bits)))
    early = [False] * (2 * breadth + 1)
    return calendar_from([*early, *[bits & closing != 0 for bits in ring.things]], len(early) + ring.back)


def _ends_at_corner(stock, breadth):
    """Return what the courses can have in order where the butting one, number 1, has just laid its corner joint."""
    crowd = {first_stand(stock.reach): True}
    for _ in range(breadth):
        crowd = {after: True for couples in crowd for after in ends_behind(stock, couples)}
    return [(couples[0], (0, False), *couples[1:]) for couples in crowd
            if all([fresh or age >= stock.lap for age, fresh in couples])]


def _closes(stock, breadth, couples):
    """Tell whether the others can end one breadth behind the second corner joint of the butting course."""
    crowd = {(couples[0], *couples[2:]): True}
    for units in range(1, breadth + 1):
        crowd = {after: True for others in crowd for index, after in unit_steps(stock, others)
                 if index is None or units >= stock.lap}
    return any([can_finish(stock, others) for others in crowd])
