"""[7.10] and [7.11]: spirals."""

from itertools import product

from jointsapart.calendars import Calendar
from jointsapart.spirals import Longest, Spiral, spiral_calendar, spiral_clash, spiral_for, spiral_joints
from jointsapart.stock import Stock
from tests.helper import NOT_SEQUENCES, NOT_WHOLE, Case

STOCKS = [Stock((2, 3)), Stock((2, 3), 1, 2), Stock((1, 3), 1, 2), Stock((3, 4), 2), Stock((1, 2, 4), 2, 2), Stock((1,)),
          Stock((4, 6), 2, 2), Stock((5,), 4, 2), Stock((8,), 2, 2), Stock((2, 3, 6), 1, 2), Stock((1, 2, 3), 1, 2), Stock((1, 2), 4),
          Stock((1, 4), 1, 2), Stock((1, 3, 5, 7), 2, 2), Stock((2, 3, 4), 1, 2), Stock((1, 2, 4), 1, 2), Stock((1, 2, 5), 2),
          Stock((1, 6, 8), 2), Stock((2, 4, 5), 1)]
TWO = Stock((2, 3))


def is_barred(stock, girth, total):
    return any(abs(total - turn * girth) < stock.lap for turn in range(1, stock.reach + 1))


def slow_clash(stock, girth, bricks):
    """The first run of the row laid again and again that has a barred sum."""
    laid = bricks * (3 * (girth + 4) + 3)
    for first in range(len(bricks)):
        for many in range(1, 2 * girth + 10):
            if is_barred(stock, girth, sum(laid[first:first + many])):
                return (first, many)
    return None


def slow_spiral(stock, girth, most):
    """A right row of the fewest bricks, up to so many, or None."""
    bricks = [brick for brick in stock.bricks if brick <= girth]
    for many in range(1, most + 1):
        for row in product(bricks, repeat=many):
            if slow_clash(stock, girth, row) is None:
                return row
    return None


def slow_rows(stock, girth):
    """All rows laid once without a barred sum, where they are finitely many."""
    rows = [()]
    found = []
    while rows:
        found += rows
        rows = [row + (brick,) for row in rows for brick in stock.bricks if brick <= girth and not any(
            is_barred(stock, girth, sum(row[at:]) + brick) for at in range(len(row) + 1))]
    return found


class Clashes(Case):
    def test_against_all_runs(self):
        for stock in STOCKS:
            for girth in (1, 2, 3, 5, 7, 12, 30):
                for many in (1, 2, 3, 5):
                    for row in list(product([brick for brick in stock.bricks if brick <= girth], repeat=many))[::4]:
                        self.same_tuple(spiral_clash(stock, girth, list(row)), slow_clash(stock, girth, row))

    def test_runs_longer_than_the_row(self):
        self.assertEqual(spiral_clash(TWO, 12, (2,)), (0, 6))
        self.assertEqual(spiral_clash(TWO, 12, (3, 2)), (1, 5))
        self.assertEqual(spiral_clash(TWO, 400, (2,)), (0, 200))
        self.assertIs(spiral_clash(TWO, 399, (2,)), None)
        self.assertEqual(spiral_clash(Stock((2, 3), 1, 2), 399, (2,)), (0, 399))
        self.assertEqual(spiral_clash(Stock((1,), 1, 2), 400, (1,)), (0, 400))

    def test_sums_of_nothing_are_none(self):
        # A lap above the girth: a run has at least one brick, and sums of 0 and less are none.
        self.assertEqual(spiral_clash(Stock((1, 2), 4), 1, (1,)), (0, 1))
        self.assertEqual(spiral_clash(Stock((8,), 4), 8, (8,)), (0, 1))
        self.assertIs(spiral_clash(Stock((8,), 4), 12, (8,)), None)
        self.assertEqual(spiral_clash(Stock((8,), 4), 13, (8,)), (0, 2))

    def test_refused_in_order(self):
        for girth in (0, 401, -1, *NOT_WHOLE):
            self.refused("BadLength", {}, spiral_clash, TWO, girth, ())
        for row, index, what in (((), 0, "many"), ((2,) * 401, 0, "many"), ((2, 4), 1, "brick"), ((2, True), 1, "brick"),
                                 ((3,) * 134, 0, "long"), (None, 0, "many")):
            self.refused("BadCourse", {"index": index, "what": what}, spiral_clash, TWO, 2, row)
            self.refused("BadCourse", {"index": index, "what": what}, spiral_calendar, TWO, row)
        for thing in NOT_SEQUENCES:
            self.refused("BadCourse", {"index": 0, "what": "many"}, spiral_calendar, TWO, thing)
        self.refused("BadCourse", {"index": 2, "what": "girth"}, spiral_clash, TWO, 2, (2, 2, 3, 2, 3))
        self.refused("BadCourse", {"index": 0, "what": "girth"}, spiral_clash, TWO, 1, (2, 3))
        # As long as the girth is let, but barred.
        self.assertEqual(spiral_clash(TWO, 3, (2, 3)), (1, 1))


class Made(Case):
    def test_fewest_bricks(self):
        for stock in STOCKS:
            for girth in range(1, 13):
                found = spiral_for(stock, girth)
                self.assertEqual(found.girth, girth)
                self.same_tuple(found.bricks, found.bricks)
                if isinstance(found, Spiral):
                    self.assertIs(spiral_clash(stock, girth, found.bricks), None)
                    self.assertEqual(len(slow_spiral(stock, girth, len(found.bricks))), len(found.bricks))
                else:
                    self.assertIs(type(found), Longest)
                    self.assertIs(slow_spiral(stock, girth, 4), None)

    def test_greatest_sum(self):
        seen = 0
        for stock in STOCKS:
            for girth in range(1, 10):
                found = spiral_for(stock, girth)
                if isinstance(found, Longest):
                    rows = slow_rows(stock, girth)
                    self.assertIn(found.bricks, rows)
                    self.assertEqual(sum(found.bricks), max(map(sum, rows)))
                    seen += sum(found.bricks) > girth
        self.assertGreater(seen, 3)

    def test_examples(self):
        self.assertEqual((spiral_for(TWO, 1).bricks, type(spiral_for(TWO, 1))), ((), Longest))
        self.assertEqual(spiral_for(Stock((8,), 4), 12).bricks, (8,))
        self.assertEqual(len(spiral_for(Stock((2, 3, 6), 1, 2), 12).bricks), 4)
        self.assertEqual(spiral_for(Stock((1,)), 5).bricks, (1,) * 4)
        # Bricks as long as the girth are barred, longer ones are not laid.
        self.assertEqual(spiral_for(Stock((5, 6)), 5).bricks, ())
        self.assertEqual(spiral_for(Stock((3, 8)), 4).bricks, (3,))
        # Twice the girth is 24, three bricks of 8.
        self.assertEqual((spiral_for(Stock((8,), 4, 2), 12).bricks, type(spiral_for(Stock((8,), 4, 2), 12))), ((8, 8), Longest))

    def test_results_keep_what_they_are_given(self):
        row = []
        for kind in (Spiral, Longest):
            self.assertIs(kind(row, 1).girth, row)
            self.assertIs(kind(1, row).bricks, row)

    def test_refused(self):
        for girth in (0, 13, -1, *NOT_WHOLE):
            self.refused("BadLength", {}, spiral_for, TWO, girth)


class Calendars(Case):
    def test_against_each_girth(self):
        for stock in STOCKS:
            for row in [row for many in (1, 2, 3, 4) for row in list(product(stock.bricks, repeat=many))[::3]]:
                calendar = spiral_calendar(stock, list(row))
                self.assertIs(type(calendar), Calendar)
                for girth in (*range(30), 100, 399, 400):
                    due = girth >= max(row) and spiral_clash(stock, girth, row) is None
                    self.assertIs(girth in calendar, due, (stock.bricks, stock.lap, stock.reach, row, girth))

    def test_all_girths(self):
        self.assertEqual(spiral_calendar(TWO, (2, 3)), Calendar(2, (), 5, (1, 4)))
        self.assertEqual(spiral_calendar(Stock((1,)), (1,)), Calendar(0, (), 1, ()))
        calendar = spiral_calendar(Stock((2, 3), 1, 2), (2,))
        self.assertEqual(calendar, Calendar(0, (), 1, ()))
        # A girth that is 1 more than some turns of the row.
        self.assertIs(5 * 10 ** 30 + 1 in spiral_calendar(TWO, (2, 3)), True)
        self.assertIs(5 * 10 ** 30 + 2 in spiral_calendar(TWO, (2, 3)), False)
        eight = Stock((7, 8))
        long = (8,) * 49 + (7,)
        calendar = spiral_calendar(eight, long)
        self.assertEqual((calendar.before, calendar.period), (7, 399))
        for girth in (8, 9, 14, 15, 16, 17, 391, 392, 399, 400):
            self.assertIs(girth in calendar, spiral_clash(eight, girth, long) is None)
            self.assertIs(girth + 399 * 10 ** 30 in calendar, girth in calendar)


class Joints(Case):
    def test_against_the_row(self):
        for girth, bricks in ((7, (2,)), (7, (2, 3)), (5, (3, 3, 2)), (1, (2,)), (12, (5, 7)), (4, (8, 8, 7)), (400, (3,) * 133)):
            spiral = Spiral(girth, bricks)
            places = [0]
            while places[-1] < 8 * girth:
                places.append(places[-1] + bricks[(len(places) - 1) % len(bricks)])
            for number in range(7):
                due = tuple(place - number * girth for place in places if place // girth == number)
                self.same_tuple(spiral_joints(spiral, number), due)
            turn = sum(bricks)
            self.assertEqual(spiral_joints(spiral, 10 ** 30), spiral_joints(spiral, 10 ** 30 % turn))
        for number in (-1, 10 ** 30 + 1, *NOT_WHOLE):
            self.refused("NoNumber", {"number": number}, spiral_joints, Spiral(7, (2,)), number)

    def test_turns_are_apart(self):
        for stock in STOCKS:
            found = spiral_for(stock, 11)
            if isinstance(found, Spiral):
                for number in (0, 1, 10 ** 29):
                    for by in range(1, stock.reach + 1):
                        for joint in spiral_joints(found, number):
                            for place in spiral_joints(found, number + by):
                                self.assertGreaterEqual(abs(joint - place), stock.lap)
