"""[1.6] to [1.10]: courses, their order and whether they are apart."""

from itertools import islice

from jointsapart.course import (
    are_apart, check_course, check_length, clash_of, count_courses, course_flaw, course_from, courses_of, joints_of, length_of,
    mirrored_course, nth_course, number_of)
from jointsapart.stock import Stock
from tests.helper import NOT_SEQUENCES, NOT_WHOLE, Case, slow_clashes, slow_courses, slow_joints

STOCKS = [Stock((2, 3)), Stock((1,)), Stock((8,)), Stock((1, 2, 3, 4), 2, 2), Stock((3, 5, 7), 3), Stock((1, 8), 4, 2)]


class Checked(Case):
    def test_a_course_is_returned_as_a_tuple(self):
        stock = Stock((2, 3))
        self.same_tuple(check_course(stock, [2, 3, 2]), (2, 3, 2))
        self.same_tuple(check_course(stock, (3,)), (3,))

    def test_many(self):
        stock = Stock((1, 2))
        self.assertEqual(check_course(stock, [1] * 400), (1,) * 400)
        for thing in ([], (), [1] * 401, (1,) * 401, [9] * 401, *NOT_SEQUENCES):
            self.refused("BadCourse", {"index": 0, "what": "many"}, check_course, stock, thing)

    def test_brick(self):
        stock = Stock((1, 2))
        for thing in (0, 3, -1, *NOT_WHOLE):
            self.refused("BadCourse", {"index": 0, "what": "brick"}, check_course, stock, [thing])
            self.refused("BadCourse", {"index": 2, "what": "brick"}, check_course, stock, (1, 2, thing, 9))
            self.refused("BadCourse", {"index": 399, "what": "brick"}, check_course, stock, [2] * 399 + [thing])

    def test_long(self):
        stock = Stock((1, 2))
        self.assertEqual(check_course(stock, [2] * 200), (2,) * 200)
        self.refused("BadCourse", {"index": 0, "what": "long"}, check_course, stock, [2] * 200 + [1])
        self.refused("BadCourse", {"index": 0, "what": "long"}, check_course, Stock((8,)), [8] * 51)

    def test_later_changes_have_no_effect(self):
        course = [1, 2]
        checked = check_course(Stock((1, 2)), course)
        course[0] = 2
        self.assertEqual(checked, (1, 2))


class Measured(Case):
    def test_joints_and_length(self):
        for course in ((2, 3, 2), [2, 3, 2], (1,), [8], (1,) * 400, (100, 7)):
            self.same_tuple(joints_of(course), tuple(slow_joints(course)))
            self.assertEqual(length_of(course), sum(course))
        self.assertEqual(joints_of((2, 3, 2)), (2, 5))
        self.assertEqual(joints_of([8]), ())

    def test_mirrored(self):
        self.same_tuple(mirrored_course([2, 3, 3]), (3, 3, 2))
        self.same_tuple(mirrored_course((5,)), (5,))
        course = [1, 2]
        mirrored_course(course)
        self.assertEqual(course, [1, 2])

    def test_course_from_joints(self):
        self.same_tuple(course_from([2, 5], 7), (2, 3, 2))
        self.same_tuple(course_from((), 400), (400,))
        self.same_tuple(course_from([], 1), (1,))
        self.same_tuple(course_from(tuple(range(1, 400)), 400), (1,) * 400)
        for stock in STOCKS:
            for course in slow_courses(stock.bricks, 11):
                self.assertEqual(course_from(list(slow_joints(course)), 11), course)

    def test_course_from_refuses(self):
        for length in (0, -1, 401, *NOT_WHOLE):
            self.refused("BadLength", {}, course_from, [3, 2], length)
            self.refused("BadLength", {}, course_from, None, length)
        for joints in ([0], [7], [2, 2], [3, 2], [1, 2, 7], [-1], [0, 3], *NOT_SEQUENCES):
            self.refused("BadJoints", {}, course_from, joints, 7)
        for thing in NOT_WHOLE:
            self.refused("BadJoints", {}, course_from, [thing], 7)
            self.refused("BadJoints", {}, course_from, (1, thing), 7)
        self.refused("BadJoints", {}, course_from, [1], 1)

    def test_check_length(self):
        for length in (1, 2, 400):
            self.assertEqual(check_length(length), length)
        self.assertEqual(check_length(12, 12), 12)
        self.assertEqual(check_length(900, high=900), 900)
        for length in (0, -1, 401, *NOT_WHOLE):
            self.refused("BadLength", {}, check_length, length)
        self.refused("BadLength", {}, check_length, 13, 12)


class Ordered(Case):
    def test_all_courses_in_order(self):
        for stock in STOCKS:
            for length in range(1, 13):
                self.same_tuple(tuple(courses_of(stock, length)), tuple(slow_courses(stock.bricks, length)))

    def test_numbers(self):
        for stock in STOCKS:
            for length in range(1, 12):
                courses = slow_courses(stock.bricks, length)
                self.assertEqual(count_courses(stock, length), len(courses))
                for number, course in enumerate(courses):
                    self.same_tuple(nth_course(stock, length, number), course)
                    self.assertEqual(number_of(stock, list(course)), number)
                for number in (-1, len(courses), 10 ** 200):
                    self.refused("NoCourse", {"number": number}, nth_course, stock, length, number)

    def test_numbers_of_other_kinds(self):
        for thing in NOT_WHOLE:
            self.refused("NoCourse", {"number": thing}, nth_course, Stock((1, 2)), 5, thing)

    def test_lengths_out_of_bounds(self):
        stock = Stock((1, 2))
        for length in (0, -1, 401, *NOT_WHOLE):
            self.refused("BadLength", {}, lambda: list(courses_of(stock, length)))
            self.refused("BadLength", {}, nth_course, stock, length, 0)
            self.refused("BadLength", {}, nth_course, stock, length, None)
        for length in (-1, 2001, *NOT_WHOLE):
            self.refused("BadLength", {}, count_courses, stock, length)

    def test_number_of_refuses(self):
        stock = Stock((1, 2))
        self.refused("BadCourse", {"index": 0, "what": "many"}, number_of, stock, ())
        self.refused("BadCourse", {"index": 1, "what": "brick"}, number_of, stock, (2, True))
        self.refused("BadCourse", {"index": 0, "what": "long"}, number_of, stock, (2,) * 201)

    def test_counts_of_the_lengths_at_the_edges(self):
        for stock in STOCKS:
            self.assertEqual(count_courses(stock, 0), 1)
        self.assertEqual(count_courses(Stock((8,)), 2000), 1)
        self.assertEqual(count_courses(Stock((8,)), 1999), 0)
        self.assertEqual(count_courses(Stock((7, 8)), 41), 0)
        one, other = 1, 1
        for _ in range(1999):
            one, other = other, one + other
        self.assertEqual(count_courses(Stock((1, 2)), 2000), other)

    def test_more_courses_than_can_be_gone_through(self):
        stock = Stock((1, 8))
        last = count_courses(stock, 400) - 1
        self.assertGreater(last, 10 ** 30)
        self.assertEqual(nth_course(stock, 400, 0), (1,) * 400)
        self.assertEqual(nth_course(stock, 400, last), (8,) * 50)
        self.assertEqual(number_of(stock, (8,) * 50), last)
        for number in (1, last // 3, last // 2 + 7, last - 1):
            self.assertEqual(number_of(stock, nth_course(stock, 400, number)), number)
        self.refused("NoCourse", {"number": last + 1}, nth_course, stock, 400, last + 1)

    def test_one_by_one(self):
        stock = Stock((1, 8))
        first = list(islice(courses_of(stock, 400), 500))
        self.assertEqual(first, [nth_course(stock, 400, number) for number in range(500)])

    def test_without_long_search(self):
        # Nearly every beginning of these rows cannot be gone on with to the end.
        stock = Stock((7, 8))
        self.assertEqual(next(courses_of(stock, 400)), nth_course(stock, 400, 0))
        self.assertEqual(list(courses_of(stock, 41)), [])
        self.assertEqual(list(courses_of(Stock((2, 4, 6, 8)), 399)), [])
        self.assertEqual(list(courses_of(Stock((7,)), 399)), [(7,) * 57])
        self.assertEqual(list(courses_of(Stock((8,)), 7)), [])

    def test_edges_of_length(self):
        self.assertEqual(list(courses_of(Stock((1,)), 1)), [(1,)])
        self.assertEqual(list(courses_of(Stock((1,)), 400)), [(1,) * 400])


class Apart(Case):
    def test_against_all_couples(self):
        for stock in STOCKS:
            for lap in (1, 2, 3, 4):
                self.check_couples(stock.with_lap(lap), slow_courses(stock.bricks, 8))

    def check_couples(self, stock, courses):
        for one in courses:
            for other in courses:
                clashes = slow_clashes(stock, one, other)
                self.assertEqual(clash_of(stock, list(one), other), clashes[0] if clashes else None)
                self.assertIs(are_apart(stock, one, list(other)), not clashes)

    def test_just_the_lap_is_apart(self):
        stock = Stock((4, 5, 6), 2)
        self.assertIs(clash_of(stock, (4, 6), (6, 4)), None)
        self.same_tuple(clash_of(stock.with_lap(3), (4, 6), (6, 4)), (4, 6))

    def test_the_least_of_several(self):
        stock = Stock((1, 2, 8), 4)
        self.same_tuple(clash_of(stock, (8, 1, 2, 8, 1), (2, 2, 2, 2, 2, 2, 8)), (8, 6))

    def test_without_joints(self):
        stock = Stock((2, 4), 4)
        self.assertIs(are_apart(stock, (4,), (4,)), True)
        self.assertIs(are_apart(stock, (4,), (2, 2)), True)
        self.assertIs(are_apart(stock, (2, 2), (2, 2)), False)

    def test_refusals_in_order(self):
        stock = Stock((1, 2))
        for call in (clash_of, are_apart):
            self.refused("BadCourse", {"index": 0, "what": "many"}, call, stock, (), (3,))
            self.refused("BadCourse", {"index": 0, "what": "brick"}, call, stock, (True,), ())
            self.refused("BadCourse", {"index": 0, "what": "many"}, call, stock, (1,), None)
            self.refused("BadCourse", {"index": 1, "what": "brick"}, call, stock, (1, 1), (2, 9))
            self.refused("UnlikeLengths", {}, call, stock, (1,), (2,))

    def test_long_courses(self):
        stock = Stock((1, 2))
        self.assertEqual(clash_of(stock, (2,) * 200, (1,) + (2,) * 199 + (1,)), None)
        self.assertEqual(clash_of(stock, (2,) * 199 + (1, 1), (1,) + (2,) * 199 + (1,)), (399, 399))


class Finer(Case):
    def test_courses_of_a_finer_stock(self):
        stock = Stock((1, 2), 1)
        for size in (1, 2, 3, 4):
            for length in range(1, 8 * size + 1):
                found = list(courses_of(stock.finer(size), length))
                parts, rest = divmod(length, size)
                due = [] if rest else [tuple(size * brick for brick in course)
                                       for course in slow_courses((1, 2), parts)]
                self.assertEqual(found, due)

    def test_apart_stays_apart(self):
        stock = Stock((1, 2), 1)
        courses = slow_courses((1, 2), 6)
        for size in (1, 2, 3, 4):
            for one in courses:
                for other in courses:
                    scaled = [[size * brick for brick in course] for course in (one, other)]
                    self.assertIs(are_apart(stock.finer(size), *scaled), are_apart(stock, one, other))


class Flaws(Case):
    def test_course_flaw(self):
        stock = Stock((2, 3))
        for length in (None, 5):
            self.assertIs(course_flaw(stock, [2, 3], length), None)
            for thing in (*NOT_SEQUENCES, (), (2, 4), (2, True)):
                self.assertEqual(course_flaw(stock, thing, length), "course")
        self.assertIs(course_flaw(stock, (2, 2)), None)
        self.assertEqual(course_flaw(stock, (2, 2), 5), "length")
