"""[7.8] and [7.9]: wells."""

import inspect
from itertools import combinations

from jointsapart.calendars import Calendar
from jointsapart.stock import Stock
from jointsapart.wells import (WellCourse, count_well_courses, turn_well, well_calendar, well_clash, well_courses,
                               well_round)
from tests.helper import NOT_SEQUENCES, NOT_WHOLE, Case, slow_courses

STOCKS = [Stock((2, 3)), Stock((2, 3), 1, 2), Stock((1, 3), 1, 2), Stock((3, 4), 2), Stock((1, 2, 4), 2, 2), Stock((1,)),
          Stock((4, 6), 2, 2), Stock((5,), 4, 2), Stock((8,), 2, 2), Stock((7, 8), 3, 2), Stock((3, 5, 8), 4), Stock((1, 2), 4, 1)]
TWO = Stock((2, 3))


def slow_well_courses(stock, girth):
    """All well courses as (turning, bricks), by all bricks and all turnings."""
    return [(turning, bricks) for turning in range(8) for bricks in slow_courses(stock.bricks, girth) if turning < bricks[-1]]


def well_joints(turning, bricks):
    return [(turning + sum(bricks[:many])) % sum(bricks) for many in range(len(bricks))]


def near_round(stock, girth, one, other):
    """All couples of joints less than the lap apart by one of both ways round, ascending."""
    return sorted((joint, place) for joint in one for place in other
                  if (joint - place) % girth < stock.lap or (place - joint) % girth < stock.lap)


def slow_well_round(stock, girth):
    courses = slow_well_courses(stock, girth)
    joints = [well_joints(*course) for course in courses]
    apart = {(one, other) for one, other in combinations(range(len(courses)), 2)
             if not near_round(stock, girth, joints[one], joints[other])}
    if stock.reach == 1:
        lots = sorted(apart)
    else:
        lots = [(one, other, third) for one, other in sorted(apart) for third in range(other + 1, len(courses))
                if (one, third) in apart and (other, third) in apart]
    return tuple(courses[at] for at in lots[0]) if lots else None


class Single(Case):
    def test_attributes(self):
        bricks = [2, 3, 2]
        course = WellCourse(1, bricks)
        bricks.append(3)
        self.assertEqual((course.turning, course.bricks, course.girth, course.joints), (1, (2, 3, 2), 7, (1, 3, 6)))
        self.assertIsInstance(vars(WellCourse)["joints"], property)
        self.same_tuple((course.bricks, course.joints), ((2, 3, 2), (1, 3, 6)))
        self.assertEqual(WellCourse(7, (8,)).joints, (7,))
        self.assertEqual(WellCourse(0, (1,) * 60).girth, 60)
        self.assertEqual(WellCourse(7, (8,) * 60).joints[-1], 479)

    def test_all(self):
        for stock in STOCKS:
            for girth in range(1, 9):
                for turning, bricks in slow_well_courses(stock, girth):
                    self.assertEqual(WellCourse(turning, bricks).joints, tuple(well_joints(turning, bricks)))

    def test_refused_in_order(self):
        for bricks in ((), (1,) * 61, [2] * 61, (2, 9), (0, 2), (2, -1), *[(2, thing) for thing in NOT_WHOLE], *NOT_SEQUENCES):
            self.refused("BadWell", {"what": "bricks"}, WellCourse, -1, bricks)
        for turning in (-1, 2, 3, *NOT_WHOLE):
            self.refused("BadWell", {"what": "turning"}, WellCourse, turning, (3, 2))
        self.assertEqual(WellCourse(2, (2, 3)).joints, (2, 4))

    def test_equal(self):
        course = WellCourse(1, (2, 3))
        self.assertIs(course == WellCourse(1, [2, 3]), True)
        self.assertIs(course != WellCourse(1, [2, 3]), False)
        for other in (WellCourse(0, (2, 3)), WellCourse(1, (3, 2)), (1, (2, 3)), None):
            self.assertIs(course == other, False)
            self.assertIs(course != other, True)


class Turned(Case):
    def test_joints_move_on(self):
        for stock in STOCKS[:6]:
            for girth in (1, 4, 7, 8):
                for turning, bricks in slow_well_courses(stock, girth):
                    course = WellCourse(turning, bricks)
                    for by in (0, 1, -1, 2, girth, girth + 3, -5, 10 ** 30, -10 ** 30):
                        turned = turn_well(course, by)
                        self.assertIs(type(turned), WellCourse)
                        self.assertEqual(turned.joints, tuple(sorted((joint + by) % girth for joint in course.joints)))
                        self.assertEqual(turned.girth, girth)
                        self.assertIs(turn_well(turned, -by) == course, True)

    def test_examples(self):
        self.assertEqual(turn_well(WellCourse(0, (2, 3)), 4), WellCourse(1, (3, 2)))
        self.assertEqual(turn_well(WellCourse(5, (7,)), 3), WellCourse(1, (7,)))
        for by in (10 ** 30 + 1, -10 ** 30 - 1, *NOT_WHOLE):
            self.refused("NoNumber", {"number": by}, turn_well, WellCourse(0, (2, 3)), by)


class Many(Case):
    def test_courses(self):
        self.assertTrue(inspect.isgeneratorfunction(well_courses))
        for stock in STOCKS:
            for girth in (*range(1, 10), 12):
                found = list(well_courses(stock, girth))
                self.assertTrue(all(type(course) is WellCourse for course in found))
                self.assertEqual([(course.turning, course.bricks) for course in found], slow_well_courses(stock, girth))
                self.assertEqual(count_well_courses(stock, girth), len(found))

    def test_one_by_one(self):
        for course in well_courses(Stock((1, 2, 3, 4)), 12):
            self.assertEqual(course, WellCourse(0, (1,) * 12))
            break

    def test_far_counts(self):
        self.assertEqual(count_well_courses(Stock((1,)), 2000), 1)
        self.assertEqual(count_well_courses(Stock((2,)), 2000), 2)
        self.assertEqual(count_well_courses(Stock((2,)), 1999), 0)
        # With bricks 1 and 2 the counts are Lucas numbers.
        older, count = 1, 3
        for girth in range(2, 2001):
            if girth in (2, 3, 61, 1000, 2000):
                self.assertEqual(count_well_courses(Stock((1, 2)), girth), count)
            older, count = count, older + count

    def test_refused(self):
        for girth in (0, 13, -1, *NOT_WHOLE):
            self.refused("BadLength", {}, lambda: list(well_courses(TWO, girth)))
            self.refused("BadLength", {}, well_round, TWO, girth)
        for girth in (0, 2001, -1, *NOT_WHOLE):
            self.refused("BadLength", {}, count_well_courses, TWO, girth)
        self.assertGreater(count_well_courses(TWO, 13), 0)


class Clashes(Case):
    def test_against_both_ways_round(self):
        for stock in STOCKS[:5] + STOCKS[-3:]:
            for girth in (1, 3, 6, 8):
                courses = slow_well_courses(stock, girth)
                for one in courses[::3]:
                    for other in courses[::2]:
                        near = near_round(stock, girth, well_joints(*one), well_joints(*other))
                        self.same_tuple(well_clash(stock, WellCourse(*one), WellCourse(*other)), min(near, default=None))
                    self.assertIsNotNone(well_clash(stock, WellCourse(*one), WellCourse(*one)))

    def test_examples(self):
        three = Stock((2, 5), 3)
        self.assertEqual(well_clash(three, WellCourse(0, (7,)), WellCourse(5, (7,))), (0, 5))
        self.assertIs(well_clash(three, WellCourse(0, (7,)), WellCourse(4, (7,))), None)
        self.assertIs(well_clash(three, WellCourse(0, (7,)), WellCourse(3, (7,))), None)
        self.refused("UnlikeGirths", {}, well_clash, three, WellCourse(0, (7,)), WellCourse(0, (2, 6)))


class Rounds(Case):
    def test_against_each_choice(self):
        for stock in STOCKS:
            for girth in range(1, 9 if len(stock.bricks) > 2 else 10):
                found = well_round(stock, girth)
                due = slow_well_round(stock, girth)
                if due is None:
                    self.assertIs(found, None)
                else:
                    self.assertIs(type(found), tuple)
                    self.assertEqual([(course.turning, course.bricks) for course in found], list(due))
        for stock in STOCKS[3:4] + STOCKS[6:11]:
            for girth in (11, 12):
                found = well_round(stock, girth)
                due = slow_well_round(stock, girth)
                self.assertEqual(found, due and tuple(WellCourse(*course) for course in due))

    def test_calendar(self):
        for stock in STOCKS:
            calendar = well_calendar(stock)
            self.assertIs(type(calendar), Calendar)
            self.assertNotIn(0, calendar)
            for girth in range(1, 13):
                self.assertIs(girth in calendar, well_round(stock, girth) is not None, (stock.bricks, stock.lap, stock.reach, girth))
        for stock in (STOCKS[3], STOCKS[6], STOCKS[7], STOCKS[8], STOCKS[9], STOCKS[10]):
            calendar = well_calendar(stock)
            for girth in range(13, 18):
                self.assertIs(girth in calendar, slow_well_round(stock, girth) is not None)

    def test_all_girths(self):
        self.assertEqual(well_calendar(TWO), Calendar(2, (), 1, (0,)))
        self.assertEqual(well_calendar(Stock((1,))), Calendar(0, (), 1, ()))
        # Bricks of 8 alone: three courses side by side, turned by the lap.
        self.assertEqual(well_calendar(Stock((8,), 2, 2)), Calendar(1, (), 8, (0,)))
        self.assertIs(8 * 10 ** 30 in well_calendar(Stock((8,), 2, 2)), True)
        self.assertIs(8 * 10 ** 30 + 1 in well_calendar(Stock((8,), 2, 2)), False)
        self.assertEqual(well_calendar(Stock((8,), 3, 2)), Calendar(0, (), 1, ()))

    def test_exchanged_is_not_enough(self):
        # Two rows of bricks 4 that go round a girth of 6 each in the place of the other make no well.
        four = Stock((4,), 2)
        self.assertEqual(well_calendar(four), Calendar(1, (), 4, (0,)))
        self.assertIs(well_round(four, 6), None)
        self.assertIs(well_round(four, 2), None)
