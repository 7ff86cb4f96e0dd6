"""[6.1] to [6.3]: patterns of short and long bricks."""

import inspect
from math import comb

from jointsapart.course import are_apart, courses_of
from jointsapart.patterns import (check_brick_ratio, check_counts, check_pattern, check_share, course_by, mirrored_pattern,
                                  pattern_by, pattern_counts, pattern_joints, patterns_of, place_at, stock_ratio)
from jointsapart.stock import Stock
from tests.helper import ALL_COUNTS, NOT_SEQUENCES, NOT_WHOLE, Case, fraction, slow_patterns, slow_places, slow_share

TAKE_PATTERN = (check_pattern, pattern_counts, pattern_joints, mirrored_pattern)
NOT_RATIOS = (None, 2, "2", True, [3, 2], (3,), (3, 2, 1), (4, 2), (3, 0), (3, -2), (-3, -2), (True, 1), (4, True), (3.0, 1))


class Checks(Case):
    def test_pattern(self):
        for length in (1, 2, 49, 50):
            pattern = [0, 1] * (length // 2) + [1] * (length % 2)
            checked = check_pattern(pattern)
            self.same_tuple(checked, tuple(pattern))
            pattern.append(1)
            self.assertEqual(len(checked), length)
            self.assertEqual(check_pattern(checked), checked)

    def test_wrong_patterns(self):
        for function in (*TAKE_PATTERN, lambda pattern: course_by(Stock((2, 3)), pattern)):
            for thing in ((), [], (0,) * 51, [1] * 51, (2,) * 51, *NOT_SEQUENCES):
                self.refused("BadPattern", {"index": 0}, function, thing)
            for brick in (2, -1, *NOT_WHOLE):
                for index in (0, 1, 49):
                    self.refused("BadPattern", {"index": index}, function, [0] * index + [brick] + [7] * (49 - index))

    def test_brick_ratio(self):
        for ratio in ((2, 1), (3, 2), (10 ** 200 + 1, 10 ** 200), (10 ** 250, 1)):
            self.assertEqual(check_brick_ratio(ratio), ratio)
        for ratio in ((1, 1), (1, 2), (0, 1), (-3, 2), (10 ** 200 - 1, 10 ** 200), *NOT_RATIOS):
            self.refused("BadBrickRatio", {"ratio": ratio}, check_brick_ratio, ratio)
            self.refused("BadBrickRatio", {"ratio": ratio}, place_at, (0, 1), ratio)

    def test_share(self):
        for share in ((1, 1), (1, 2), (1, 10 ** 200), (10 ** 200 - 1, 10 ** 200)):
            self.assertEqual(check_share(share), share)
        for share in ((0, 1), (-1, 2), (2, 1), (10 ** 200 + 1, 10 ** 200), *NOT_RATIOS):
            self.refused("BadShare", {"share": share}, check_share, share)

    def test_counts(self):
        for a_count in range(-1, 11):
            for b_count in range(-1, 11):
                due = "a" if not 0 <= a_count <= 8 else "b" if not 0 <= b_count <= 8 else None
                due = due or (None if 1 <= a_count + b_count <= 8 else "many")
                for function in (check_counts, lambda *counts: list(patterns_of(*counts))):
                    if due:
                        self.refused("BadCounts", {"what": due}, function, a_count, b_count)
                if not due:
                    self.same_tuple(check_counts(a_count, b_count), (a_count, b_count))
        for thing in NOT_WHOLE:
            self.refused("BadCounts", {"what": "a"}, check_counts, thing, 9)
            self.refused("BadCounts", {"what": "b"}, check_counts, 8, thing)


class Patterns(Case):
    def test_joints_counts_and_mirror(self):
        for counts in ALL_COUNTS:
            for pattern in slow_patterns(*counts):
                joints = pattern_joints(list(pattern))
                due = tuple((pattern[:many].count(0), pattern[:many].count(1)) for many in range(1, len(pattern)))
                self.same_tuple(joints, due)
                self.same_tuple(pattern_counts(list(pattern)), counts)
                self.same_tuple(mirrored_pattern(list(pattern)), pattern[::-1])

    def test_examples(self):
        self.assertEqual(pattern_joints((0, 1, 1, 0)), ((1, 0), (1, 1), (1, 2)))
        self.assertEqual(pattern_joints((1,)), ())

    def test_place(self):
        for ratio in ((3, 2), (5, 1), (10 ** 20 + 1, 10 ** 20)):
            for joint in ((0, 0), (1, 0), (0, 1), (3, 4), [2, 2]):
                place = place_at(joint, ratio)
                self.assertEqual(fraction(place), joint[0] + joint[1] * fraction(ratio))
                self.assertEqual(place, (fraction(place).numerator, fraction(place).denominator))
        pattern = (1, 0, 0, 1, 1)
        self.assertEqual([fraction(place_at(joint, (7, 3))) for joint in pattern_joints(pattern)],
                         slow_places(pattern, fraction((7, 3))))

    def test_patterns_of(self):
        self.assertTrue(inspect.isgeneratorfunction(patterns_of))
        for a_count, b_count in ALL_COUNTS:
            found = list(patterns_of(a_count, b_count))
            self.same_tuple(tuple(found), tuple(slow_patterns(a_count, b_count)))
            self.assertEqual(len(found), comb(a_count + b_count, b_count))


class OfStocks(Case):
    def test_stock_ratio(self):
        for bricks, lap, due in (((2, 3), 1, ((3, 2), (1, 2))), ((2, 4), 3, ((2, 1), (3, 2))), ((1, 8), 4, ((8, 1), (4, 1))),
                                 ((6, 8), 4, ((4, 3), (2, 3)))):
            self.same_tuple(stock_ratio(Stock(bricks, lap)), due)

    def test_course_by_and_pattern_by(self):
        stock = Stock((2, 5), 2)
        pattern = [0, 1, 1, 0]
        course = course_by(stock, pattern)
        pattern[0] = 1
        self.same_tuple(course, (2, 5, 5, 2))
        self.same_tuple(pattern_by(stock, [2, 5, 5, 2]), (0, 1, 1, 0))
        for course in courses_of(stock, 20):
            self.assertEqual(course_by(stock, pattern_by(stock, course)), course)
        self.assertEqual(sum(course_by(Stock((7, 8)), (1,) * 50)), 400)
        self.assertEqual(len(pattern_by(stock, (2,) * 50)), 50)

    def test_refused_in_order(self):
        for stock in (Stock((2,)), Stock((2, 3, 4)), Stock((1, 2, 3, 4))):
            self.refused("NotTwo", {}, stock_ratio, stock)
            self.refused("NotTwo", {}, course_by, stock, (5,))
            self.refused("NotTwo", {}, pattern_by, stock, ())
        stock = Stock((2, 3))
        for course, index, what in (((), 0, "many"), ((2,) * 401, 0, "many"), ((2, 4), 1, "brick"), ((2, True), 1, "brick"),
                                    ((3,) * 134, 0, "long"), (None, 0, "many")):
            self.refused("BadCourse", {"index": index, "what": what}, pattern_by, stock, course)
        self.refused("BadPattern", {"index": 0}, pattern_by, stock, (2,) * 51)
        self.refused("BadPattern", {"index": 0}, pattern_by, stock, (2,) * 200)
        self.refused("BadPattern", {"index": 1}, course_by, stock, (1, 2))

    def test_apart_exactly_if_the_patterns_are(self):
        for bricks, lap in (((2, 3), 1), ((2, 3), 2), ((3, 5), 2), ((4, 6), 3), ((3, 7), 3)):
            stock = Stock(bricks, lap)
            ratio, share = map(fraction, stock_ratio(stock))
            courses = list(courses_of(stock, 17))
            for one in courses:
                for other in courses:
                    least = slow_share(pattern_by(stock, one), pattern_by(stock, other), ratio)
                    self.assertIs(are_apart(stock, one, other), least is None or least >= share)
