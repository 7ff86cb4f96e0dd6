"""[2.1] to [2.3]: walls, clashes and right walls."""

from itertools import islice, product

from jointsapart.stock import Stock
from jointsapart.walls import Clash, Wall, all_clashes, check_right, first_clash, is_right
from tests.helper import NOT_SEQUENCES, NOT_WHOLE, Case, slow_clashes, slow_courses

STOCKS = [Stock((2, 3)), Stock((2, 3), 1, 2), Stock((1, 2, 4), 2, 2), Stock((1, 2), 4, 1), Stock((2, 4, 8), 3, 2)]


def told(clash):
    return (clash.upper, clash.lower, clash.joint, clash.other)


def slow_wall_clashes(wall):
    """All clashes as (upper, lower, joint, other), ascending."""
    return sorted((upper, lower, joint, other)
                  for upper in range(len(wall.courses)) for lower in range(upper)
                  if upper - lower <= wall.stock.reach
                  for joint, other in slow_clashes(wall.stock, wall.courses[lower], wall.courses[upper]))


class Made(Case):
    def test_attributes(self):
        stock = Stock((2, 3))
        wall = Wall(stock, [[2, 3], (3, 2), [2, 3]])
        self.assertEqual(wall.stock, stock)
        self.same_tuple(wall.courses, ((2, 3), (3, 2), (2, 3)))
        self.assertEqual(wall.length, 5)
        self.assertEqual(len(wall), 3)

    def test_1_60_and_61_courses(self):
        stock = Stock((1, 2))
        self.assertEqual(len(Wall(stock, ((1,),))), 1)
        self.assertEqual(len(Wall(stock, [[1, 1]] * 60)), 60)
        for thing in ([], (), [[1, 1]] * 61, [None] * 61, *NOT_SEQUENCES):
            self.refused("BadWall", {"index": 0, "what": "many"}, Wall, stock, thing)

    def test_course(self):
        stock = Stock((1, 2))
        wrong = [(), [3], (1, 3), [True], (1,) * 401, (2,) * 201, *NOT_SEQUENCES, *NOT_WHOLE]
        for thing in wrong:
            if thing not in ((2,), [2]):
                self.refused("BadWall", {"index": 0, "what": "course"}, Wall, stock, [thing])
                self.refused("BadWall", {"index": 2, "what": "course"}, Wall, stock, [[1], (1,), thing, (2,)])

    def test_length(self):
        stock = Stock((1, 2))
        self.refused("BadWall", {"index": 1, "what": "length"}, Wall, stock, [(1,), (2,), (9,)])
        self.refused("BadWall", {"index": 2, "what": "length"}, Wall, stock, [(2,), (1, 1), (1, 2)])
        self.refused("BadWall", {"index": 1, "what": "course"}, Wall, stock, [(1,), (9,), (2,)])

    def test_greatest_length(self):
        self.assertEqual(Wall(Stock((8,)), [[8] * 50]).length, 400)

    def test_later_changes_have_no_effect(self):
        low = [2, 3]
        courses = [low, [3, 2]]
        wall = Wall(Stock((2, 3)), courses)
        low[0] = 3
        courses.append([2, 3])
        self.assertEqual(wall.courses, ((2, 3), (3, 2)))

    def test_equality(self):
        stock = Stock((2, 3))
        wall = Wall(stock, [(2, 3), (3, 2)])
        self.assertIs(wall == Wall(Stock([2, 3]), ((2, 3), [3, 2])), True)
        self.assertIs(wall != Wall(Stock([2, 3]), ((2, 3), [3, 2])), False)
        for other in (Wall(stock, [(3, 2), (2, 3)]), Wall(stock, [(2, 3)]), Wall(stock.with_lap(2), wall.courses),
                      wall.courses, stock, None):
            self.assertIs(wall == other, False)
            self.assertIs(wall != other, True)

    def test_need_not_be_right(self):
        self.assertIs(is_right(Wall(Stock((2, 3)), [(2, 3), (2, 3)])), False)


class Clashes(Case):
    def test_attributes_and_equality(self):
        clash = Clash(1, 2, 3, 4)
        self.assertEqual((clash.lower, clash.upper, clash.joint, clash.other), (1, 2, 3, 4))
        self.assertIs(clash == Clash(1, 2, 3, 4), True)
        self.assertIs(clash != Clash(1, 2, 3, 4), False)
        for other in (Clash(0, 2, 3, 4), Clash(1, 0, 3, 4), Clash(1, 2, 0, 4), Clash(1, 2, 3, 0), (1, 2, 3, 4), None):
            self.assertIs(clash == other, False)
            self.assertIs(clash != other, True)

    def test_a_result_keeps_what_it_is_given(self):
        things = ([1], None, "x", object())
        clash = Clash(*things)
        for kept, thing in zip((clash.lower, clash.upper, clash.joint, clash.other), things):
            self.assertIs(kept, thing)

    def test_against_all_couples(self):
        for stock in STOCKS:
            courses = slow_courses(stock.bricks, 6)
            for height in (1, 2, 3):
                for chosen in islice(product(courses, repeat=height), 0, 1500, 3 if height == 3 else 1):
                    self.check(Wall(stock, chosen))

    def test_higher_walls(self):
        for stock in STOCKS:
            courses = slow_courses(stock.bricks, 8)
            for step in range(1, 8):
                self.check(Wall(stock, [courses[step * number % len(courses)] for number in range(6)]))

    def check(self, wall):
        due = slow_wall_clashes(wall)
        found = list(all_clashes(wall))
        self.assertEqual([told(clash) for clash in found], due)
        self.assertTrue(all(type(clash) is Clash for clash in found))
        first = first_clash(wall)
        self.assertEqual(first and told(first), due[0] if due else None)
        self.assertIs(is_right(wall), not due)

    def test_order_across_pairs(self):
        wall = Wall(Stock((1, 2), 2, 2), [(1, 2), (2, 1), (1, 1, 1)])
        self.assertEqual([told(clash) for clash in all_clashes(wall)], [
            (1, 0, 1, 2), (2, 0, 1, 1), (2, 0, 1, 2), (2, 1, 2, 1), (2, 1, 2, 2)])

    def test_reach(self):
        courses = [(2, 3), (5,), (2, 3), (5,)]
        self.assertIs(is_right(Wall(Stock((2, 3, 5), 1, 1), courses)), True)
        self.assertEqual(told(first_clash(Wall(Stock((2, 3, 5), 1, 2), courses))), (2, 0, 2, 2))
        courses = [(2, 3), (5,), (5,), (2, 3)]
        self.assertIs(is_right(Wall(Stock((2, 3, 5), 1, 2), courses)), True)

    def test_lap_just_kept(self):
        self.assertIs(is_right(Wall(Stock((2, 4), 2), [(2, 4), (4, 2)])), True)
        self.assertIs(is_right(Wall(Stock((2, 4), 3), [(2, 4), (4, 2)])), False)

    def test_one_course_is_right(self):
        self.assertIs(is_right(Wall(Stock((1,), 4, 2), [(1,) * 400])), True)

    def test_60_long_courses(self):
        stock = Stock((1, 2), 1, 2)
        wall = Wall(stock, [(1,) * 400] * 60)
        self.assertEqual(sum(1 for _ in all_clashes(wall)), (59 + 58) * 399)
        self.assertEqual(told(first_clash(wall)), (1, 0, 1, 1))
        turns = [(2,) * 200, (1,) + (2,) * 199 + (1,)] * 30
        self.assertIs(is_right(Wall(stock.with_reach(1), turns)), True)

    def test_check_right(self):
        wall = Wall(Stock((2, 3)), [(2, 3), (3, 2)])
        self.assertIs(check_right(wall), wall)
        self.refused("NotRight", {}, check_right, Wall(Stock((2, 3)), [(2, 3), (2, 3)]))
