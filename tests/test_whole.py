"""Part 0 over the whole program: what is equal, what is passed in and returned, and what the parts say of one length."""

import copy

from jointsapart.bench import Bench
from jointsapart.bridges import NoBridge, bridge_fault, nobridge_fault
from jointsapart.calendars import Calendar, calendar_from
from jointsapart.changes import stock_after
from jointsapart.course import check_course, clash_of, course_from, number_of
from jointsapart.crackjudge import floor_fault
from jointsapart.cracks import Crack, Prices, crack_price, floor_numbers
from jointsapart.ends import check_end, end_of, next_ends
from jointsapart.everyheight import CrackCalendar
from jointsapart.gaps import fill_gap
from jointsapart.lengths import Barred, courses_for, length_calendar
from jointsapart.loads import check_loads, feet_of, load_rows
from jointsapart.means import Rate, least_mean
from jointsapart.mends import NoStock, find_mends
from jointsapart.notice import notice_calendar
from jointsapart.patterns import check_pattern, mirrored_pattern, pattern_joints
from jointsapart.plans import NoPlan, Plan, notice_plan
from jointsapart.ratios import sum_of
from jointsapart.readers import read_loads, reader_of
from jointsapart.repeating import Repeating
from jointsapart.rounds import Highest, Round, greatest_height, ordered, round_fault, round_for
from jointsapart.ruins import Ruin, count_fillings
from jointsapart.sides import side_clash
from jointsapart.spirals import spiral_calendar
from jointsapart.stands import first_stand
from jointsapart.stock import Stock
from jointsapart.stretches import Stretch
from jointsapart.strongest import strongest_round
from jointsapart.takings import check_bundle, is_steady, left_after, order_fault, take_order
from jointsapart.tariffs import Cheapest, TariffNet, cheapest_lot, cut_tariff
from jointsapart.walls import Clash, Wall
from jointsapart.wells import WellCourse
from jointsapart.wishes import broken_wish
from tests.helper import Case, is_all_tuples

TWO = Stock((2, 3))
WALL = Wall(TWO, ((2, 2, 3), (3, 2, 2)))
LOADS = [(3, 1), (0, 1), (1, 2)]
STOCKS = [TWO, Stock((2, 3), 1, 2), Stock((1, 4), 2), Stock((8,), 4, 2), Stock((1, 2, 3, 4), 1, 2), Stock((3, 5, 7), 2, 1), Stock((1,))]


def objects():
    """One object of each class that has ==, made anew."""
    return [Stock((1,)), Wall(TWO, [(2,)]), Clash(0, 1, 2, 3), Round(TWO, [(2,), (2,)]), Highest(()), NoBridge(()), Repeating((1,), 0),
            Calendar(0, (), 1, ()), Barred(1, ()), Rate((1, 1), (), ()), Plan((), ()), NoPlan(()), Stretch((1, 1), None),
            WellCourse(0, (1,)), Cheapest(0, ()), TariffNet((), ()), Prices(0, 0), Crack(0, ()), CrackCalendar((0,), 1, 0),
            Ruin(TWO, 1, ("",)), NoStock()]


# Functions, and what they are passed with lists wherever a sequence may be either.
CALLS = [
    (Stock, [[2, 3]]), (check_course, [TWO, [2, 3, 2]]), (clash_of, [TWO, [2, 3], [2, 3]]), (course_from, [[2, 4], 7]),
    (number_of, [TWO, [3, 2, 2]]), (Wall, [TWO, [[2, 3], [3, 2]]]), (Round, [TWO, [[2, 3], [3, 2]]]), (sum_of, [LOADS]),
    (round_fault, [TWO, [[2, 3], [2, 3]]]), (ordered, [Round(TWO, [(2, 3), (3, 2)]), [1, 0]]), (bridge_fault, [WALL, WALL, [[3, 2, 2]]]),
    (nobridge_fault, [WALL, WALL, [[[2, 2, 3]], [[3, 2, 2]]]]), (Calendar, [3, [1, 2], 4, [0, 1]]), (calendar_from, [[True, False], 1]),
    (check_end, [TWO, [[0, False], [2, True]]]), (next_ends, [TWO, [[0, False], [2, True]]]), (end_of, [TWO, [[2, 3], [3, 2]], 2]),
    (fill_gap, [TWO, [[0, True], [0, True]], [[0, True], [0, True]], 5]), (least_mean, [2, [[0, 1, 3], [1, 0, 4]]]),
    (notice_calendar, [TWO, [[0, True], [0, True]]]), (notice_plan, [TWO, [[0, True], [0, True]], 5]), (check_pattern, [[0, 1]]),
    (pattern_joints, [[0, 1, 1]]), (mirrored_pattern, [[0, 1, 1]]), (side_clash, [TWO, 1, ["p", [2, 3]], ["b", [3]]]),
    (WellCourse, [0, [2, 3]]), (spiral_calendar, [TWO, [2, 3]]), (cheapest_lot, [TWO, [1, 0, 0], 6]), (crack_price, [WALL, Prices(1, 2), [1, 6]]),
    (floor_fault, [WALL, Prices(3, 2), [list(row) for row in floor_numbers(WALL, Prices(3, 2))]]), (CrackCalendar, [[0, 1], 1, 1]),
    (check_loads, [WALL, LOADS]), (load_rows, [WALL, LOADS, (1, 2)]), (feet_of, [WALL, LOADS, (1, 2)]),
    (read_loads, [WALL, reader_of(WALL), LOADS, (0, 1)]), (check_bundle, [WALL, [(1, 0), (0, 1)]]), (is_steady, [WALL, [(1, 0), (0, 0)]]),
    (left_after, [WALL, [(1, 0), (0, 1)]]), (take_order, [WALL, [(0, 0), (1, 0)]]), (order_fault, [WALL, [(1, 0), (0, 0)]]),
    (Ruin, [TWO, 5, ["????", "?j??"]]), (stock_after, [TWO, [["let", 4], ["lap", 2]]]),
    (broken_wish, [TWO, [["every", 5], ["side", 1, 7]]]), (find_mends, [TWO, [["let", 4]], [["every", 4]]]),
    (Bench(TWO).put, [["let", 4]]),
]


def tuples_for(thing):
    return tuple(tuples_for(part) for part in thing) if isinstance(thing, (list, tuple)) else thing


def shown(thing):
    """What can be compared of a result."""
    if isinstance(thing, (list, tuple)):
        return tuple(shown(part) for part in thing)
    return tuple((name, shown(value)) for name, value in vars(thing).items()) if hasattr(thing, "__dict__") else thing


class Equality(Case):
    def test_objects_of_two_classes_are_never_equal(self):
        for at, one in enumerate(objects()):
            for by, other in enumerate(objects()):
                self.assertIs(one == other, at == by, (one, other))
                self.assertIs(one != other, at != by, (one, other))

    def test_other_things_are_not_equal(self):
        for one in objects():
            for other in (None, 0, 1, True, "", (), [], {}, object()):
                self.assertIs(one == other, False)
                self.assertIs(other == one, False)


class PassedIn(Case):
    def test_nothing_is_changed_and_lists_are_as_good_as_tuples(self):
        for function, args in CALLS:
            with self.subTest(function.__name__):
                before = copy.deepcopy(shown(args))
                found = function(*args)
                self.assertEqual(shown(args), before)
                if function.__name__ != "put":
                    self.assertEqual(shown(found), shown(function(*[tuples_for(part) for part in args])))

    def test_what_is_returned_has_no_lists(self):
        for function, args in CALLS:
            with self.subTest(function.__name__):
                found = function(*args)
                for thing in [found] if isinstance(found, tuple) else vars(found).values() if hasattr(found, "__dict__") else []:
                    if isinstance(thing, (tuple, list)):
                        self.assertTrue(is_all_tuples(thing), thing)

    def test_what_is_made_is_not_changed_by_later_changes(self):
        for made, parts, change in (
                (Wall, [TWO, [[2, 3], [3, 2]]], lambda parts: parts[1][0].clear()), (Round, [TWO, [[2, 3], [3, 2]]], lambda parts: parts[1].clear()),
                (Ruin, [TWO, 2, ["j", "b"]], lambda parts: parts[2].clear()), (CrackCalendar, [[0, 1], 1, 1], lambda parts: parts[0].clear()),
                (Calendar, [3, [1, 2], 4, [0]], lambda parts: parts[1].clear()), (WellCourse, [0, [2, 3]], lambda parts: parts[1].clear()),
                (Stock, [[2, 3]], lambda parts: parts[0].append(9))):
            due = made(*copy.deepcopy(parts))
            found = made(*parts)
            change(parts)
            self.assertEqual(found, due)


class OneLength(Case):
    def test_all_parts_say_the_same_of_a_length(self):
        for stock in STOCKS:
            calendar = length_calendar(stock)
            for length in range(1, 13):
                every = length in calendar
                self.assertIs(isinstance(round_for(stock, length), Round), every)
                self.assertIs(greatest_height(stock, length) is None, every)
                self.assertIs(isinstance(courses_for(stock, length), tuple), every)
                lot = cheapest_lot(stock, cut_tariff(stock), length)
                self.assertIs(lot is not None and lot.price == 0, every)
                self.assertIs(broken_wish(stock, [("every", length)]) is None, every)
                self.assertIs(broken_wish(stock, [("not every", length)]) is not None, every)
                self.assertIs(Bench(stock).broken([("every", length)]) is None, every)
                if 2 <= length <= 8:
                    self.assertIs(strongest_round(stock, length, Prices(1, 1)) is not None, every)
                if length <= 10 and not every:
                    # One course more than the greatest height has no filling.
                    height = greatest_height(stock, length)
                    rows = ["?" * (length - 1)] * (height + 1)
                    self.assertEqual(count_fillings(Ruin(stock, length, rows)), 0)
                    self.assertTrue(height == 0 or count_fillings(Ruin(stock, length, rows[1:])) > 0)
                elif length <= 10:
                    self.assertGreater(count_fillings(Ruin(stock, length, ["?" * (length - 1)] * 6)), 0)

    def test_a_notice_that_does_is_a_wish_fulfilled(self):
        for stock in STOCKS:
            end = first_stand(stock.reach + 1)
            calendar = notice_calendar(stock, end)
            for units in (0, 1, 2, 5, 9, 30, 60):
                self.assertIs(broken_wish(stock, [("notice", units)]) is None, units in calendar)
