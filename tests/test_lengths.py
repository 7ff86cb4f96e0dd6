"""[4.12], [4.13], [4.19] and the example: the lengths that serve, and lots of a length."""

from jointsapart.calendars import Calendar, first_served
from jointsapart.course import length_of
from jointsapart.lengths import Barred, barred_fault, courses_for, length_calendar, same_lengths
from jointsapart.rounds import apart_lots, greatest_height
from jointsapart.stands import can_finish, crowd_after, crowd_ring, next_stands
from jointsapart.stock import Stock
from tests.helper import NOT_WHOLE, Case, slow_apart

STOCKS = [Stock((2, 3)), Stock((2, 3), 1, 2), Stock((1, 2, 4), 2, 2), Stock((1, 2), 4), Stock((2, 4, 8), 3, 2),
          Stock((1, 2, 3), 1, 2), Stock((3, 4), 1, 2), Stock((5,), 2, 2), Stock((2, 7), 2, 1), Stock((3, 8), 2, 1),
          Stock((1,), 1, 1), Stock((6, 7, 8), 2, 2)]
TWO = Stock((2, 3))


class Lengths(Case):
    def test_against_lots(self):
        for stock in STOCKS:
            for size in range(1, stock.reach + 2):
                calendar = length_calendar(stock, size=size)
                self.assertIs(type(calendar), Calendar)
                self.assertEqual([length in calendar for length in range(13)],
                                 [False] + [any(True for _ in apart_lots(stock, length, size)) for length in range(1, 13)])

    def test_every_height(self):
        for stock in STOCKS:
            calendar = length_calendar(stock)
            self.assertEqual(calendar, length_calendar(stock, size=None))
            self.assertEqual(calendar, length_calendar(stock, size=stock.reach + 1))
            for length in range(1, 13):
                self.assertIs(length in calendar, greatest_height(stock, length) is None)

    def test_far_lengths(self):
        """One by one the stands tell far beyond what can be tried."""
        for stock in STOCKS:
            for size in range(1, stock.reach + 2):
                calendar = length_calendar(stock, size=size)
                ring = crowd_ring(stock, size)
                for length in (*range(100), 10 ** 30 - 1, 10 ** 30):
                    self.assertIs(length in calendar, any(can_finish(stock, stand) for stand in ring.at(length)))

    def test_finitely_many(self):
        for bricks in ((1, 2), (2, 3), (1, 3, 5), (4,), (7, 8), (1, 2, 3, 4)):
            for lap in (1, 2, 3, 4):
                for reach in (1, 2):
                    stock = Stock(bricks, lap, reach)
                    for size in range(2, reach + 2):
                        calendar = length_calendar(stock, size=size)
                        if stock.longest < lap * size:
                            self.assertEqual((calendar.period, calendar.rests), (1, ()))

    def test_all_stocks_of_two_bricks(self):
        for one in range(1, 8):
            for other in range(one + 1, 9):
                stock = Stock((one, other))
                calendar = length_calendar(stock)
                self.assertIs(0 in calendar, False)
                self.assertIs(one in calendar, True)
                self.assertIs(one + other in calendar, True)

    def test_one_course(self):
        self.assertEqual(length_calendar(Stock((4, 6)), size=1), Calendar(4, [], 2, [0]))
        self.assertEqual(length_calendar(Stock((4, 6)), size=1).rests, (0,))
        self.assertEqual(length_calendar(Stock((8,), 1, 2), size=1), Calendar(1, [], 8, [0]))

    def test_refused(self):
        for stock in (TWO, Stock((2, 3), 1, 2)):
            for size in (0, stock.reach + 2, -1, *NOT_WHOLE):
                if size is not None:
                    self.refused("BadSize", {}, length_calendar, stock, size=size, most=0)
            for most in (0, 4001, *NOT_WHOLE):
                self.refused("BadMost", {}, length_calendar, stock, most=most)
        self.assertEqual(length_calendar(Stock((1,)), most=3), length_calendar(Stock((1,))))
        self.refused("Wide", {"most": 2}, length_calendar, Stock((1,)), most=2)

    def test_same_lengths(self):
        for one in STOCKS:
            for other in STOCKS:
                first, second = length_calendar(one), length_calendar(other)
                due = next((length for length in range(200) if (length in first) != (length in second)), None)
                self.assertEqual(same_lengths(one, other), due)
        self.assertIs(same_lengths(TWO, TWO), None)
        # Each with its own reach + 1.
        self.assertEqual(same_lengths(TWO, TWO.with_reach(2)), 5)


class Lots(Case):
    def test_against_all_lots(self):
        for stock in STOCKS:
            for size in (None, *range(1, stock.reach + 2)):
                many = stock.reach + 1 if size is None else size
                for length in range(1, 11):
                    lots = list(apart_lots(stock, length, many))
                    found = courses_for(stock, length, size=size)
                    if lots:
                        self.assertIn(found, lots)
                    else:
                        self.check_barred(stock, many, length, found)

    def check_barred(self, stock, size, length, found):
        self.assertIs(type(found), Barred)
        self.assertEqual(found.size, size)
        ring = crowd_ring(stock, size)
        self.same_tuple(found.crowds, tuple(ring.at(units) for units in range(length + 1)))
        self.assertIs(barred_fault(stock, size, length, found), None)

    def test_lengths_to_60(self):
        for stock in STOCKS:
            calendar = length_calendar(stock)
            for length in (1, *range(13, 61, 3), 59, 60):
                found = courses_for(stock, length)
                if length in calendar:
                    self.check_lot(stock, length, found)
                else:
                    self.check_barred(stock, stock.reach + 1, length, found)

    def check_lot(self, stock, length, found):
        self.same_tuple(found, tuple(sorted(found)))
        self.assertEqual(len(found), stock.reach + 1)
        for course in found:
            self.assertEqual(length_of(course), length)
            self.assertLessEqual(set(course), set(stock.bricks))
        self.assertTrue(slow_apart(stock, found))

    def test_one_brick_twice(self):
        self.assertEqual(courses_for(Stock((4,)), 4), ((4,), (4,)))
        self.assertEqual(courses_for(Stock((4,), 4, 2), 4), ((4,),) * 3)

    def test_refused(self):
        for stock in (TWO, Stock((2, 3), 1, 2)):
            for size in (0, stock.reach + 2, -1, *NOT_WHOLE):
                if size is not None:
                    self.refused("BadSize", {}, courses_for, stock, 0, size=size)
            for length in (0, 61, -1, *NOT_WHOLE):
                self.refused("BadLength", {}, courses_for, stock, length)
                self.refused("BadLength", {}, courses_for, stock, length, size=1)


class Judged(Case):
    def setUp(self):
        self.barred = courses_for(TWO, 4)
        self.crowds = self.barred.crowds

    def check(self, word, crowds, size=2):
        self.assertEqual(barred_fault(TWO, 2, 4, Barred(size, crowds)), word)

    def with_more(self, number, *stands):
        return [*self.crowds[:number], (*stands, *self.crowds[number]), *self.crowds[number + 1:]]

    def test_right_things_that_are_not_exact(self):
        self.check(None, self.crowds)
        self.check(None, [crowd[::-1] for crowd in self.crowds])
        self.check(None, [crowd * 2 for crowd in self.crowds])
        # Behind this stand nothing comes: its ages can only grow.
        self.check(None, self.with_more(2, ((3, False), (3, True))))
        # A stand may be told with all that comes of it.
        more = ((0, False), (0, True))
        after = next_stands(TWO, more)
        self.check("unit", self.with_more(3, more))
        self.check(None, [*self.crowds[:3], (more, *self.crowds[3]), (*after, *self.crowds[4])])

    def test_for_other_stocks_and_lengths(self):
        for stock in STOCKS:
            for length in (*range(1, 14), 60):
                found = courses_for(stock, length)
                if isinstance(found, Barred):
                    self.assertIs(barred_fault(stock, stock.reach + 1, length, found), None)
                    self.assertEqual(barred_fault(stock, stock.reach, length, found), "size")
                    if length < 60:
                        self.assertEqual(barred_fault(stock, stock.reach + 1, length + 1, found), "many")

    def test_where_there_is_a_lot_nothing_is_right(self):
        crowds = [crowd_after(TWO, 2, units) for units in range(6)]
        self.assertEqual(barred_fault(TWO, 2, 5, Barred(2, crowds)), "finish")
        for number in range(6):
            for stand in crowds[number]:
                fewer = [*crowds[:number], tuple(one for one in crowds[number] if one != stand), *crowds[number + 1:]]
                self.assertIn(barred_fault(TWO, 2, 5, Barred(2, fewer)), ("first", "unit", "finish"))

    def test_size(self):
        for size in (1, 3, None, "2", True, 2.0, (2,)):
            self.check("size", self.crowds, size)
            self.check("size", (), size)
        one = courses_for(TWO, 1, size=1)
        self.assertIs(barred_fault(TWO, 1, 1, one), None)
        self.assertEqual(barred_fault(TWO, 1, 1, Barred(True, one.crowds)), "size")

    def test_many(self):
        for crowds in (self.crowds[:-1], [*self.crowds, ()], (), None, 5):
            self.check("many", crowds)

    def test_first(self):
        self.check("first", [(), *self.crowds[1:]])
        self.check("first", [(((0, True), (0, False)),), *self.crowds[1:]])
        # 1 is no truth, and False is no whole number.
        self.check("first", [(((0, 1), (0, 1)),), *self.crowds[1:]])
        self.check("first", [(((False, True), (0, True)),), *self.crowds[1:]])
        self.check("first", [(((0, True),),), *self.crowds[1:]])
        self.check("first", [()] * 5)

    def test_unit(self):
        for number in range(1, 5):
            for stand in self.crowds[number]:
                fewer = tuple(one for one in self.crowds[number] if one != stand)
                self.check("unit", [*self.crowds[:number], fewer, *self.crowds[number + 1:]])
        told = tuple(tuple((age, int(fresh)) for age, fresh in stand) for stand in self.crowds[1])
        self.check("unit", [self.crowds[0], told, *self.crowds[2:]])
        # "unit" goes for all crowds before "finish".
        self.check("unit", [*self.crowds[:3], (), (((2, True), (3, False)),)])

    def test_what_is_no_stand_shows_nothing(self):
        for thing in (None, 5, "ab", (5,), ((0, True), 5), ((0, True, True),), ((0,), (1, True)), ((-1, True), (0, True)),
                      ((None, True), (0, True)), ((0, None), (0, True)), (("2", True), (2, True)), ((2, 1), (2, 0))):
            for number in range(5):
                self.check(None, self.with_more(number, thing))
                self.check("unit" if number else "first", [*self.crowds[:number], (thing,), *self.crowds[number + 1:]])
        for crowd in (None, 5, "ab"):
            self.check("first", [crowd, *self.crowds[1:]])
            self.check("unit", [*self.crowds[:2], crowd, *self.crowds[3:]])

    def test_finish(self):
        self.check("finish", self.with_more(4, ((2, True), (3, False))))
        self.check("finish", self.with_more(4, ((2, False), (2, False))))
        self.check(None, self.with_more(4, ((1, False), (2, False))))

    def test_refused(self):
        for size in (0, 3, -1, *NOT_WHOLE):
            self.refused("BadSize", {}, barred_fault, TWO, size, 0, self.barred)
        for length in (0, 61, -1, *NOT_WHOLE):
            self.refused("BadLength", {}, barred_fault, TWO, 2, length, self.barred)

    def test_barred(self):
        crowds = [[((0, True),)], []]
        barred = Barred(1, crowds)
        crowds[0].append(5)
        self.same_tuple(barred.crowds, ((((0, True),),), ()))
        self.assertEqual(barred.size, 1)
        self.assertIs(barred == Barred(1, (barred.crowds[0], [])), True)
        self.assertIs(barred != Barred(1, (barred.crowds[0], [])), False)
        for other in (Barred(2, barred.crowds), Barred(1, barred.crowds[:1]), (1, barred.crowds), None):
            self.assertIs(barred == other, False)
            self.assertIs(barred != other, True)
        self.assertEqual((Barred(None, None).size, Barred(None, None).crowds), (None, None))


class Example(Case):
    def test_example(self):
        calendar = length_calendar(TWO)
        self.assertEqual((calendar.before, calendar.lengths, calendar.period, calendar.rests), (5, (2, 3), 1, (0,)))
        self.assertEqual(first_served(calendar, 4), 5)
        self.assertIs(type(courses_for(TWO, 4)), Barred)
        self.assertEqual(courses_for(TWO, 4, size=1), ((2, 2),))
