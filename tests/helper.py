"""What several tests need: a case that knows refusals, wrong things, and plain slow answers."""

import unittest
from itertools import combinations_with_replacement

from jointsapart.errors import WallError

# Things that are no whole numbers, some of which Python takes for equal to one.
NOT_WHOLE = (True, False, None, "2", b"2", 2.0, (2,), [2], {2: 2})
# Things that are no lists or tuples.
NOT_SEQUENCES = (None, True, 2, "22", b"22", {2: 3}, {2, 3}, range(2, 4))


class Case(unittest.TestCase):
    """A test case with a check of refusals."""

    def refused(self, name, told, call, *args, **more):
        """Check that the call raises just the error `name` with the attributes `told`."""
        try:
            call(*args, **more)
        except WallError as error:
            self.assertEqual(type(error).__name__, name)
            self.assertEqual(vars(error), told)
            for attribute in told:
                self.assertIs(type(getattr(error, attribute)), type(told[attribute]))
            return
        self.fail(f"{name} was not raised")

    def same_tuple(self, thing, expected):
        """Check equality, and that there is no list at any depth."""
        self.assertEqual(thing, expected)
        self.assertTrue(is_all_tuples(thing), thing)


def is_all_tuples(thing):
    if isinstance(thing, tuple):
        return all(is_all_tuples(part) for part in thing)
    return not isinstance(thing, (list, dict, set))


def slow_courses(bricks, length):
    """All rows of these bricks of this length, in ascending order, by plain search."""
    if length == 0:
        return [()]
    return [(brick,) + row for brick in sorted(bricks) if brick <= length
            for row in slow_courses(bricks, length - brick)]


def slow_joints(course):
    return [sum(course[:many]) for many in range(1, len(course))]


def slow_clashes(stock, one, other):
    """All couples of joints that are less than the lap apart, ascending."""
    return sorted((joint, place) for joint in slow_joints(one) for place in slow_joints(other)
                  if abs(joint - place) < stock.lap)


def slow_apart(stock, courses):
    """Whether each two of these courses are apart."""
    return not any(slow_clashes(stock, one, other)
                   for at, one in enumerate(courses) for other in courses[at + 1:])


def slow_lots(stock, length, size):
    """All lots of `size` courses of this length, ascending, by trying each choice."""
    return [lot for lot in combinations_with_replacement(slow_courses(stock.bricks, length), size)
            if slow_apart(stock, lot)]


def slow_right(stock, courses):
    """Whether these courses make a right wall, of any height."""
    return all(slow_apart(stock, courses[at:at + stock.reach + 1]) for at in range(len(courses)))


def slow_walls(stock, length, height, first=()):
    """All right walls, as tuples of courses, that begin with the courses of `first` and have `height` more."""
    walls = [tuple(first)]
    for _ in range(height):
        walls = [wall + (course,) for wall in walls for course in slow_courses(stock.bricks, length)
                 if slow_right(stock, (wall + (course,))[-stock.reach - 1:])]
    return walls
