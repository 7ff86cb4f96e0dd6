"""What several tests need: a case that knows refusals, wrong things, and plain slow answers."""

import unittest
from fractions import Fraction
from functools import lru_cache
from itertools import combinations_with_replacement, product

from jointsapart.errors import WallError

# Things that are no whole numbers, some of which Python takes for equal to one.
NOT_WHOLE = (True, False, None, "2", b"2", 2.0, (2,), [2], {2: 2})
# Things that are no lists or tuples.
NOT_SEQUENCES = (None, True, 2, "22", b"22", {2: 3}, {2, 3}, range(2, 4))


class Case(unittest.TestCase):
    """A test case with a check of refusals."""

    def refused(self, name, told, call, *args, **more):
        """Check that the call raises just the error `name` with the attributes `told`."""
        try:
            call(*args, **more)
        except WallError as error:
            self.assertEqual(type(error).__name__, name)
            self.assertEqual(vars(error), told)
            for attribute in told:
                self.assertIs(type(getattr(error, attribute)), type(told[attribute]))
            return
        self.fail(f"{name} was not raised")

    def same_tuple(self, thing, expected):
        """Check equality, and that there is no list at any depth."""
        self.assertEqual(thing, expected)
        self.assertTrue(is_all_tuples(thing), thing)


def is_all_tuples(thing):
    if isinstance(thing, tuple):
        return all(is_all_tuples(part) for part in thing)
    return not isinstance(thing, (list, dict, set))


def slow_courses(bricks, length):
    """All rows of these bricks of this length, in ascending order, by plain search."""
    if length == 0:
        return [()]
    return [(brick,) + row for brick in sorted(bricks) if brick <= length
            for row in slow_courses(bricks, length - brick)]


def slow_joints(course):
    return [sum(course[:many]) for many in range(1, len(course))]


def slow_clashes(stock, one, other):
    """All couples of joints that are less than the lap apart, ascending."""
    return sorted((joint, place) for joint in slow_joints(one) for place in slow_joints(other)
                  if abs(joint - place) < stock.lap)


def slow_apart(stock, courses):
    """Whether each two of these courses are apart."""
    return not any(slow_clashes(stock, one, other)
                   for at, one in enumerate(courses) for other in courses[at + 1:])


def slow_lots(stock, length, size):
    """All lots of `size` courses of this length, ascending, by trying each choice."""
    return [lot for lot in combinations_with_replacement(slow_courses(stock.bricks, length), size)
            if slow_apart(stock, lot)]


def slow_right(stock, courses):
    """Whether these courses make a right wall, of any height."""
    return all(slow_apart(stock, courses[at:at + stock.reach + 1]) for at in range(len(courses)))


def slow_walls(stock, length, height, first=()):
    """All right walls, as tuples of courses, that begin with the courses of `first` and have `height` more."""
    walls = [tuple(first)]
    for _ in range(height):
        walls = [wall + (course,) for wall in walls for course in slow_courses(stock.bricks, length)
                 if slow_right(stock, (wall + (course,))[-stock.reach - 1:])]
    return walls


def all_ends(stock, size):
    """All ends of so many courses, in the words of [5.1], ascending."""
    couples = [(age, fresh) for age in range(stock.longest + 1) for fresh in (False, True)]
    found = []
    for end in product(couples, repeat=size):
        fresh = {age for age, young in end if young}
        ages = [age for age, young in end if not young]
        if len(fresh) > 1 or any(age > begun - min(stock.bricks) for age in ages for begun in fresh):
            continue
        if all(abs(one - other) >= stock.lap for at, one in enumerate(ages) for other in ages[at + 1:]):
            found.append(end)
    return found


def slow_ways(stock, end, units):
    """The set of all ends that so many units can lead to, in the words of [4.8]."""
    crowd = {end}
    for _ in range(units):
        found = set()
        for couples in crowd:
            older = [(age + 1, fresh) for age, fresh in couples]
            for at in range(-1, len(older)):
                after = list(older)
                if at >= 0:
                    others = [age for by, (age, fresh) in enumerate(older) if by != at and not fresh]
                    if older[at][0] not in stock.bricks or any(age < stock.lap for age in others):
                        continue
                    after[at] = (0, False)
                if all(age <= max(stock.bricks) for age, _ in after):
                    found.add(tuple(after))
        crowd = found
    return crowd


def can_end(stock, end):
    return all(age in stock.bricks for age, _ in end)


def slow_patterns(a_count, b_count):
    """All patterns of the counts, ascending."""
    return [row for row in product((0, 1), repeat=a_count + b_count) if sum(row) == b_count]


def fraction(ratio):
    return None if ratio is None else Fraction(ratio[0], ratio[1])


def ratio_from(number):
    return (Fraction(number).numerator, Fraction(number).denominator)


@lru_cache(None)
def slow_places(pattern, ratio):
    """The places of the joints of a pattern at a ratio, as fractions."""
    bricks = [Fraction(1), Fraction(ratio)]
    return [sum((bricks[brick] for brick in pattern[:many]), Fraction(0)) for many in range(1, len(pattern))]


def slow_share(one, other, ratio):
    """The least distance of the joints of two patterns, or None."""
    return min([abs(place - far) for place in slow_places(one, ratio) for far in slow_places(other, ratio)], default=None)


@lru_cache(None)
def slow_widest(a_count, b_count, ratio):
    """The widest share of the counts at a ratio, over all couples."""
    patterns = slow_patterns(a_count, b_count)
    shares = [slow_share(one, other, ratio) for at, one in enumerate(patterns) for other in patterns[at:]]
    return None if shares == [None] else max(shares)


ALL_COUNTS = [(a_count, b_count) for a_count in range(9) for b_count in range(9 - a_count) if a_count + b_count > 0]


def slow_face(breadth, letter, course):
    """The joints of a face, in the words of [7.3]."""
    joints = slow_joints(course)
    if letter != "b":
        return joints
    return [breadth, *[breadth + joint for joint in joints], breadth + sum(course)]


def slow_faces_apart(stock, breadth, one, other):
    return all(abs(joint - place) >= stock.lap for joint in slow_face(breadth, *one) for place in slow_face(breadth, *other))


def slow_cracks(wall):
    """The places of all cracks of a wall, ascending."""
    return list(product(range(1, wall.length), repeat=len(wall)))


def slow_crack_price(wall, prices, places):
    """What a crack costs, in the words of [8.1]."""
    through = sum(0 if place in slow_joints(course) else prices.brick for place, course in zip(places, wall.courses))
    return through + sum(prices.bed * abs(one - other) for one, other in zip(places, places[1:]))


# Things that are no ratios: other kinds, other numbers of entries, not in lowest terms, with no whole numbers in them.
NOT_RATIOS = (None, 1, 0, True, "1", [1, 2], (), (1,), (1, 2, 3), (2, 4), (0, 2), (1, 0), (-1, -2), (True, 1), (1, True),
              (1, None), ("1", 2), (1, -2))


def slow_ends(course, number):
    """Where a brick of a course begins and ends."""
    return sum(course[:number]), sum(course[:number + 1])


def slow_common(wall, upper, lower):
    """The common length of two bricks (course, number)."""
    left, right = slow_ends(wall.courses[upper[0]], upper[1])
    start, end = slow_ends(wall.courses[lower[0]], lower[1])
    return max(0, min(right, end) - max(left, start))


def slow_loads(wall, loads, weight):
    """The rows of all loads as fractions, lowest course first, in the words of [9.2]."""
    rows = []
    handed = [Fraction(*load) for load in loads]
    for course in range(len(wall) - 1, -1, -1):
        borne = [amount + Fraction(*weight) * brick for amount, brick in zip(handed, wall.courses[course])]
        rows.insert(0, borne)
        handed = [sum(Fraction(slow_common(wall, (course, at), (course - 1, under)), brick) * borne[at]
                      for at, brick in enumerate(wall.courses[course])) for under in range(len(wall.courses[course - 1]))]
    return rows


def bricks_of(wall):
    """All bricks of a wall, ascending."""
    return [(course, number) for course, row in enumerate(wall.courses) for number in range(len(row))]


def slow_rests(wall, brick, bundle):
    """Whether a brick rests on a bundle, in the words of [9.9]."""
    if brick[0] == 0:
        return True
    left, right = slow_ends(wall.courses[brick[0]], brick[1])
    places = []
    for under in bundle:
        if under[0] == brick[0] - 1 and slow_common(wall, brick, under) >= 1:
            start, end = slow_ends(wall.courses[under[0]], under[1])
            places += range(2 * max(left, start), 2 * min(right, end) + 1)
    return any(place <= left + right for place in places) and any(place >= left + right for place in places)


def slow_steady(wall):
    """All steady bundles of a small wall, as frozen sets."""
    bricks = bricks_of(wall)
    bundles = [frozenset(brick for at, brick in enumerate(bricks) if bits >> at & 1) for bits in range(1 << len(bricks))]
    return [bundle for bundle in bundles if all(slow_rests(wall, brick, bundle) for brick in bundle)]


def in_bundle_order(bundles):
    """Bundles of fewer bricks first, those of equally many ascending."""
    return tuple(sorted((tuple(sorted(bundle)) for bundle in bundles), key=lambda bundle: (len(bundle), bundle)))


def slow_signs(course, length):
    """The signs of all places of a course."""
    return "".join("j" if place in slow_joints(course) else "b" for place in range(1, length))


def slow_fillings(ruin):
    """The courses of all fillings of a ruin, ascending, by going through all right walls."""
    return [courses for courses in slow_walls(ruin.stock, ruin.length, len(ruin.rows)) if all(
        seen in ("?", sign) for row, course in zip(ruin.rows, courses) for seen, sign in zip(row, slow_signs(course, ruin.length)))]
