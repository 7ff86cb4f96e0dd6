"""[3.1] to [3.5]: lots, rounds and the greatest height."""

from itertools import islice, permutations

from jointsapart.rounds import (Highest, Round, all_rounds, apart_lots, course_at, greatest_height, ordered, rotated,
                                round_fault, round_for, wall_from)
from jointsapart.stock import Stock
from jointsapart.walls import Wall, is_right
from tests.helper import NOT_SEQUENCES, NOT_WHOLE, Case, slow_apart, slow_courses, slow_lots, slow_walls

STOCKS = [Stock((2, 3)), Stock((2, 3), 1, 2), Stock((1, 2, 4), 2, 2), Stock((1, 2), 4), Stock((2, 4, 8), 3, 2),
          Stock((1, 2, 3), 1, 2), Stock((3, 4), 1, 2), Stock((5,), 2, 2)]
TWO = Stock((2, 3))
THREE = Stock((3, 4, 5), 1, 2)


class Lots(Case):
    def test_against_trying_each(self):
        for stock in STOCKS:
            for length in range(1, 9):
                for size in (1, 2, 3, 4):
                    if size < 4 or len(slow_courses(stock.bricks, length)) < 14:
                        found = tuple(apart_lots(stock, length, size))
                        self.same_tuple(found, tuple(slow_lots(stock, length, size)))

    def test_length_12(self):
        for stock in (Stock((2, 3)), Stock((3, 4, 5), 1, 2), Stock((2, 5, 7), 2), Stock((4, 6, 8), 2)):
            for size in (1, 2, 3, 4):
                self.assertEqual(list(apart_lots(stock, 12, size)), slow_lots(stock, 12, size))

    def test_only_one_brick_stands_twice(self):
        self.assertEqual(list(apart_lots(Stock((4,)), 4, 2)), [((4,), (4,))])
        self.assertEqual(list(apart_lots(Stock((4,)), 4, 4)), [((4,),) * 4])
        self.assertEqual(list(apart_lots(Stock((2, 4)), 4, 3)), [((2, 2), (4,), (4,)), ((4,), (4,), (4,))])
        self.assertEqual(list(apart_lots(Stock((4,)), 8, 2)), [])

    def test_size_goes_beyond_the_reach(self):
        self.assertEqual(len(list(apart_lots(Stock((1, 2, 3, 5), 1, 1), 12, 4))), 16)

    def test_one_by_one(self):
        stock = Stock((1, 2, 3, 4))
        first = list(islice(apart_lots(stock, 12, 1), 3))
        self.assertEqual(first, [((1,) * 12,), ((1,) * 10 + (2,),), ((1,) * 9 + (2, 1),)])
        self.assertTrue(all(slow_apart(stock, lot) for lot in islice(apart_lots(stock, 12, 2), 50)))

    def test_refused(self):
        stock = Stock((2, 3), 1, 2)
        for length in (0, 13, -1, *NOT_WHOLE):
            self.refused("BadLength", {}, lambda: list(apart_lots(stock, length, 2)))
            self.refused("BadLength", {}, lambda: list(apart_lots(stock, length, 0)))
        for size in (0, 5, -1, *NOT_WHOLE):
            self.refused("BadSize", {}, lambda: list(apart_lots(stock, 12, size)))


class Rounds(Case):
    def test_attributes(self):
        made = Round(TWO, [[2, 3], (3, 2)])
        self.assertEqual(made.stock, TWO)
        self.same_tuple(made.courses, ((2, 3), (3, 2)))
        self.assertEqual(made.length, 5)
        self.assertEqual(len(made), 2)
        self.assertEqual(list(made), [(2, 3), (3, 2)])
        self.same_tuple(tuple(made), made.courses)

    def test_three_courses_in_any_order(self):
        lot = ((3, 5, 3), (4, 3, 4), (5, 4, 2))
        stock = Stock((2, 3, 4, 5), 1, 2)
        for courses in permutations(lot):
            made = Round(stock, courses)
            self.assertEqual(made.courses, courses)
            self.assertEqual(len(made), 3)

    def test_equality(self):
        made = Round(TWO, [(2, 3), (3, 2)])
        self.assertIs(made == Round(Stock((2, 3)), ([2, 3], [3, 2])), True)
        self.assertIs(made != Round(Stock((2, 3)), ([2, 3], [3, 2])), False)
        for other in (Round(TWO, [(3, 2), (2, 3)]), Round(Stock((2, 3, 4)), [(2, 3), (3, 2)]), ((2, 3), (3, 2)),
                      Wall(TWO, [(2, 3), (3, 2)]), Highest(((2, 3), (3, 2))), None):
            self.assertIs(made == other, False)
            self.assertIs(made != other, True)

    def test_later_changes_have_no_effect(self):
        low = [2, 3]
        courses = [low, [3, 2]]
        made = Round(TWO, courses)
        low[0] = 3
        courses.append([2, 3])
        self.assertEqual(made.courses, ((2, 3), (3, 2)))

    def test_as_long_as_a_course_may_be(self):
        stock = Stock((1, 2))
        long = [(2,) * 200, (1,) + (2,) * 199 + (1,)]
        made = Round(stock, long)
        self.assertEqual(made.length, 400)
        self.assertIs(round_fault(stock, long), None)
        self.refused("BadRound", {"index": 1, "what": "course"}, Round, stock, [(2,) * 200, (2,) * 201])

    def check_refused(self, stock, courses, index, word):
        self.refused("BadRound", {"index": index, "what": word}, Round, stock, courses)
        self.assertEqual(round_fault(stock, courses), word)

    def test_many(self):
        course = (2, 2)
        for stock, sizes in ((Stock((2, 4)), (0, 1, 3, 4)), (Stock((2, 4), 1, 2), (0, 1, 2, 4))):
            for size in sizes:
                self.check_refused(stock, [course] * size, 0, "many")
                self.check_refused(stock, (None,) * size, 0, "many")
        for thing in NOT_SEQUENCES:
            self.check_refused(TWO, thing, 0, "many")

    def test_course(self):
        for thing in (*NOT_SEQUENCES, (), (1,), (2, True), (2, 4), "23"):
            self.check_refused(TWO, [thing, (2, 3)], 0, "course")
            self.check_refused(TWO, [(2, 3), thing], 1, "course")
            self.check_refused(Stock((2, 3), 1, 2), [(2,), (3,), thing], 1, "length")
            self.check_refused(Stock((2, 3), 1, 2), [(2,), (2,), thing], 2, "course")

    def test_length(self):
        self.check_refused(TWO, [(2, 3), (3, 3)], 1, "length")
        self.check_refused(Stock((2, 3), 1, 2), [(2, 3), (3, 2), (3, 3)], 2, "length")
        self.check_refused(TWO, [(2, 2), (2, 2, 2)], 1, "length")

    def test_clash(self):
        self.check_refused(TWO, [(2, 3), (2, 3)], 1, "clash")
        self.check_refused(Stock((2, 3), 2), [(2, 3), (3, 2)], 1, "clash")
        self.check_refused(Stock((2, 3), 1, 2), [(2, 3), (3, 2), (2, 3)], 2, "clash")
        self.check_refused(Stock((2, 3), 1, 2), [(2, 3), (3, 2), (3, 2)], 2, "clash")
        self.check_refused(Stock((2, 3), 1, 2), [(2, 3), (2, 3), (3, 3)], 1, "clash")

    def test_fault_of_none(self):
        self.assertIs(round_fault(TWO, [[2, 3], [3, 2]]), None)
        self.assertIs(round_fault(TWO, ((3, 2), (2, 3))), None)
        self.assertIs(round_fault(Stock((4,), 4, 2), [(4,)] * 3), None)


class Laid(Case):
    def setUp(self):
        self.two = Round(TWO, [(2, 3), (3, 2)])
        self.three = Round(Stock((2, 3, 4, 5), 1, 2), [(3, 5, 3), (4, 3, 4), (5, 4, 2)])

    def test_course_at(self):
        for laid in (self.two, self.three):
            size = len(laid)
            for number in range(20):
                self.same_tuple(course_at(laid, number), laid.courses[number % size])
            for number in range(10 ** 30 - 5, 10 ** 30 + 1):
                self.assertEqual(course_at(laid, number), laid.courses[number % size])

    def test_no_number(self):
        for number in (-1, 10 ** 30 + 1, 10 ** 40, *NOT_WHOLE):
            self.refused("NoNumber", {"number": number}, course_at, self.two, number)

    def test_wall_from(self):
        for laid in (self.two, self.three):
            for height in (1, 2, 3, 4, 5, 59, 60):
                wall = wall_from(laid, height)
                self.assertEqual(wall, Wall(laid.stock, [laid.courses[at % len(laid)] for at in range(height)]))
                self.assertIs(is_right(wall), True)
            for height in (0, 61, -1, *NOT_WHOLE):
                self.refused("BadHeight", {}, wall_from, laid, height)

    def test_rotated(self):
        for laid in (self.two, self.three):
            size = len(laid)
            for by in (*range(-7, 8), 10 ** 30, -10 ** 30, 10 ** 30 - 1, 1 - 10 ** 30):
                turned = rotated(laid, by)
                self.assertIs(type(turned), Round)
                self.assertEqual(turned, Round(laid.stock, [laid.courses[(at + by) % size] for at in range(size)]))
            for by in (10 ** 30 + 1, -10 ** 30 - 1, *NOT_WHOLE):
                self.refused("NoNumber", {"number": by}, rotated, laid, by)

    def test_ordered(self):
        for laid in (self.two, self.three):
            for order in permutations(range(len(laid))):
                due = Round(laid.stock, [laid.courses[at] for at in order])
                self.assertEqual(ordered(laid, order), due)
                self.assertEqual(ordered(laid, list(order)), due)

    def test_bad_order(self):
        for order in ((), (0,), (0, 0), (1, 2), (0, 2), (0, 1, 2), (-1, 0), (False, True), (False, 1), (0, True),
                      (0, "1"), (0, None), ("0", "1"), *NOT_SEQUENCES, {0: 1, 1: 0}, range(2), "01"):
            self.refused("BadOrder", {}, ordered, self.two, order)
        for order in ((0, 1), (0, 1, 1), (0, 1, 3), (2, 1, 0, 0), (2, True, 0)):
            self.refused("BadOrder", {}, ordered, self.three, order)


class Found(Case):
    def test_against_trying_each(self):
        for stock in STOCKS:
            for length in range(1, 9):
                self.check(stock, length)

    def check(self, stock, length):
        full = slow_lots(stock, length, stock.reach + 1)
        found = round_for(stock, length)
        rounds = list(all_rounds(stock, length))
        self.assertEqual([made.courses for made in rounds], full)
        self.assertTrue(all(type(made) is Round and made.stock == stock for made in rounds))
        if full:
            self.assertEqual(found, Round(stock, full[0]))
            self.assertIs(greatest_height(stock, length), None)
            return
        most = max(size for size in range(stock.reach + 1) if size == 0 or slow_lots(stock, length, size))
        self.assertIs(type(found), Highest)
        self.same_tuple(found.courses, slow_lots(stock, length, most)[0] if most else ())
        self.assertEqual(len(found), most)
        self.assertIs(type(greatest_height(stock, length)), int)
        self.assertEqual(greatest_height(stock, length), most)

    def test_greatest_height_is_that_of_walls(self):
        for stock in STOCKS:
            for length in range(1, 8):
                height = greatest_height(stock, length)
                if height is None:
                    self.assertTrue(slow_walls(stock, length, 4))
                else:
                    self.assertTrue(height == 0 or slow_walls(stock, length, height))
                    self.assertFalse(slow_walls(stock, length, height + 1))

    def test_no_course(self):
        self.assertEqual(round_for(Stock((5,)), 4), Highest(()))
        self.assertEqual(greatest_height(Stock((5,)), 4), 0)
        self.assertEqual(list(all_rounds(Stock((5,)), 4)), [])

    def test_length_12(self):
        self.assertEqual(round_for(TWO, 12).courses, slow_lots(TWO, 12, 2)[0])
        self.assertEqual(greatest_height(Stock((4, 8), 4, 2), 12), 2)
        self.assertEqual(round_for(Stock((4, 8), 4, 2), 12), Highest(((4, 8), (8, 4))))
        self.assertEqual(round_for(Stock((1, 2, 3, 4), 1, 2), 12).courses,
                         next(apart_lots(Stock((1, 2, 3, 4), 1, 2), 12, 3)))

    def test_all_rounds_one_by_one(self):
        first = list(islice(all_rounds(Stock((1, 2, 3, 4)), 12), 2))
        self.assertEqual([made.courses for made in first], list(islice(apart_lots(Stock((1, 2, 3, 4)), 12, 2), 2)))

    def test_refused(self):
        for length in (0, 13, -1, *NOT_WHOLE):
            self.refused("BadLength", {}, round_for, TWO, length)
            self.refused("BadLength", {}, greatest_height, TWO, length)
            self.refused("BadLength", {}, lambda: list(all_rounds(TWO, length)))

    def test_highest(self):
        courses = [[2, 3]]
        highest = Highest(courses)
        self.assertIs(highest.courses, courses)
        self.assertEqual(len(highest), 1)
        self.assertEqual(len(Highest(())), 0)
        self.assertIs(Highest(((2,),)) == Highest(((2,),)), True)
        self.assertIs(Highest(((2,),)) != Highest(((2,),)), False)
        for other in (Highest(()), Highest(((3,),)), ((2,),), None):
            self.assertIs(Highest(((2,),)) == other, False)
            self.assertIs(Highest(((2,),)) != other, True)


class Example(Case):
    """[3.12], what it says of rounds."""

    def test_example(self):
        self.assertEqual(round_for(TWO, 7), Round(TWO, [(2, 2, 3), (3, 2, 2)]))
        self.assertEqual(list(all_rounds(TWO, 7)), [Round(TWO, [(2, 2, 3), (3, 2, 2)])])
        self.assertEqual(round_for(TWO, 4), Highest(((2, 2),)))
        self.assertEqual(greatest_height(TWO, 4), 1)
        self.assertIs(greatest_height(TWO, 7), None)
