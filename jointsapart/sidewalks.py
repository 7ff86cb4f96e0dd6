"""Sides by any corner word: courses that are laid again and again, or the most courses that can be laid."""

from jointsapart.course import course_flaw, courses_of, near_joints
from jointsapart.errors import NoNumber
from jointsapart.ratios import is_whole
from jointsapart.sides import (check_breadth, check_corners, check_side, course_length, face_joints, is_corner_word,
                               standard_corners)


class Walk:
    """The corner word of a side and courses that are laid again and again."""

    def __init__(self, corners, courses):
        self.corners = corners
        self.courses = courses


class Tallest:
    """The corner word of a side and the most courses that can be laid."""

    def __init__(self, corners, courses):
        self.corners = corners
        self.courses = courses


class Laying:
    """What can be laid on a side: states (place in the word, numbers of the last courses, as many as the reach)."""

    def __init__(self, stock, breadth, side, corners):
        self.reach = stock.reach
        self.corners = corners
        letters = {letter: True for letter in corners}
        self.rows = {letter: _rows_for(stock, breadth, side, letter) for letter in letters}

    def states_behind(self, state):
        """Return the states that can come of a state when one course is laid."""
        place, top = state
        many = len(self.corners)
        barred = 0
        for back, number in enumerate(top[::-1]):
            barred = barred | self.rows[self.corners[(place - 1 - back) % many]][number][2]
        return [((place + 1) % many, (*top, number)[-self.reach:])
                for number, row in enumerate(self.rows[self.corners[place]]) if not row[1] & barred]

    def courses_told(self, states):
        """Return the courses that are laid last in states that follow one another from place 0 of the word on."""
        return tuple([self.rows[self.corners[(place - 1) % len(self.corners)]][top[-1]][0] for place, top in states])


def _rows_for(stock, breadth, side, letter):
    """Return rows (course, bits of its joints, bits of the places near to them) for a letter.

    A course is left out if another one has some of its joints alone: that one does wherever it does.
    """
    length = course_length(breadth, side, letter)
    rows = []
    for course in courses_of(stock, length):
        joints = face_joints(breadth, (letter, course))
        near = {place: True for joint in joints for place in range(joint - stock.lap + 1, joint + stock.lap)}
        rows.append((course, sum([1 << joint for joint in joints]), sum([1 << place for place in near if place >= 0])))
    return [row for row in rows if not any([other[1] != row[1] and other[1] & row[1] == other[1] for other in rows])]


def side_walk(stock, breadth, side, corners=None):
    """Return a Walk of as few courses as possible if the side serves every height by the word, otherwise Tallest."""
    check_breadth(breadth)
    check_side(breadth, side, 10)
    word = standard_corners(stock) if corners is None else check_corners(corners)
    return walk_by(stock, breadth, side, word)


def walk_by(stock, breadth, side, word):
    """Return what side_walk does, for what needs no check."""
    laying = Laying(stock, breadth, side, word)
    following = _following(laying)
    lasting = _lasting(following)
    if (0, ()) in lasting:
        return Walk(word, laying.courses_told(_shortest_ring(lasting, len(word))))
    return Tallest(word, laying.courses_told(_longest_way(following)))


def _following(laying):
    """Return each state that can be come to, with those that can come of it."""
    following = {}
    waiting = [(0, ())]
    while waiting:
        state = waiting.pop()
        if state not in following:
            following[state] = laying.states_behind(state)
            waiting.extend(following[state])
    return following


def _lasting(following):
    """Return the states from which courses can be laid for ever, with those of them that can come of each."""
    left = following
    many = None
    while many != len(left):
        many = len(left)
        kept = {state: [after for after in left[state] if after in left] for state in left}
        left = {state: kept[state] for state in kept if kept[state]}
    return left


def _shortest_ring(lasting, many):
    """Return the states of a ring of the fewest courses, behind a state at place 0 of the word."""
    ring = None
    for state in lasting:
        # No ring is shorter than the word.
        if state[0] == 0 and (ring is None or len(ring) > many):
            found = _ring_from(lasting, state, None if ring is None else len(ring) - 1)
            ring = ring if found is None else found
    return ring


def _ring_from(lasting, first, most):
    """Return the states of a shortest ring that ends with this one, of at most so many, or None."""
    before = {}
    crowd = [first]
    steps = 0
    while crowd and first not in before and steps != most:
        crowd = _crowd_behind(lasting, crowd, before)
        steps += 1
    return _way_back(before, first, steps) if first in before else None


def _crowd_behind(lasting, crowd, before):
    """Return the states that come of these and of none earlier; `before` is told the state ahead of each."""
    behind = []
    for state in crowd:
        for after in lasting[state]:
            if after not in before:
                before[after] = state
                behind.append(after)
    return behind


def _way_back(before, last, many):
    """Return the last states of the way to this one, as many as told."""
    states = [last]
    while len(states) < many:
        states.append(before[states[-1]])
    return states[::-1]


def _longest_way(following):
    """Return the states of a longest way from the beginning; there is no endless one."""
    layers = [{(0, ()): None}]
    while layers[-1]:
        layers.append({after: state for state in layers[-1] for after in following[state]})
    layers.pop()
    states = list(layers[-1])[:1]
    for layer in layers[:0:-1]:
        states.append(layer[states[-1]])
    return states[-2::-1]


def walk_course(walk, number):
    """Return the face of the course with this number when the walk is laid again and again."""
    if not is_whole(number, 0, 10 ** 30):
        raise NoNumber(number)
    return (walk.corners[number % len(walk.corners)], walk.courses[number % len(walk.courses)])


def walk_fault(stock, breadth, side, walk):
    """Return the word that tells why this is no Walk of the side, or None."""
    check_breadth(breadth)
    check_side(breadth, side, 400)
    if not is_corner_word(walk.corners):
        return "corners"
    courses = walk.courses
    if not isinstance(courses, (list, tuple)) or not courses or len(courses) % len(walk.corners) != 0:
        return "many"
    for number, course in enumerate(courses):
        word = course_flaw(stock, course, course_length(breadth, side, walk.corners[number % len(walk.corners)]))
        if word is not None:
            return word
    many = len(courses)
    joints = [face_joints(breadth, walk_course(walk, number)) for number in range(many)]
    steps = range(1, stock.reach + 1)
    pairs = [(joints[number], joints[(number + by) % many]) for number in range(many) for by in steps]
    return None if all([_are_apart(stock, one, other) for one, other in pairs]) else "clash"


def _are_apart(stock, joints, others):
    lap = stock.lap
    for _ in near_joints(lap, joints, others):
        return False
    return True
