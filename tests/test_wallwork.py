"""[2.4], [2.5]: walls made from walls."""

from itertools import product

from jointsapart.stock import Stock
from jointsapart.walls import Wall, all_clashes, is_right
from jointsapart.wallwork import (
    check_number, exchanged, part_of, piled, seam_clash, upturned, wall_mirrored, with_course)
from tests.helper import NOT_SEQUENCES, NOT_WHOLE, Case, slow_courses
from tests.test_walls import slow_wall_clashes, told

STOCK = Stock((2, 3))
WALL = Wall(STOCK, [(2, 2, 3), (3, 2, 2), (2, 3, 2), (2, 2, 3)])


def walls(stock, length, heights):
    courses = slow_courses(stock.bricks, length)
    return [Wall(stock, chosen) for height in heights for chosen in product(courses, repeat=height)]


class Piles(Case):
    def test_lower_and_upper(self):
        pile = piled(Wall(STOCK, [(2, 3), (3, 2)]), Wall(STOCK, [(2, 3), (2, 3)]))
        self.assertEqual(pile, Wall(STOCK, [(2, 3), (3, 2), (2, 3), (2, 3)]))

    def test_refusals_in_order(self):
        one = Wall(STOCK, [(2, 3)] * 31)
        for call in (piled, seam_clash):
            self.refused("CannotPile", {"what": "stock"}, call, one, Wall(Stock((2, 3), 2), [(2, 2)] * 60))
            self.refused("CannotPile", {"what": "stock"}, call, one, Wall(Stock((2, 3), 1, 2), [(2, 3)]))
            self.refused("CannotPile", {"what": "length"}, call, one, Wall(STOCK, [(2, 2)] * 60))
        self.refused("CannotPile", {"what": "many"}, piled, one, Wall(STOCK, [(2, 3)] * 30))
        self.assertEqual(len(piled(one, Wall(STOCK, [(2, 3)] * 29))), 60)

    def test_seam_against_all_clashes(self):
        for stock in (STOCK, Stock((1, 2), 2, 2), Stock((1, 3), 1, 2)):
            parts = walls(stock, 4, (1, 2)) + walls(stock, 4, (3,))[::5]
            for one in parts[::2]:
                for other in parts[::3]:
                    self.check_seam(one, other)

    def check_seam(self, one, other):
        pile = Wall(one.stock, one.courses + other.courses)
        due = [row for row in slow_wall_clashes(pile) if row[1] < len(one) <= row[0]]
        found = seam_clash(one, other)
        self.assertEqual(found and told(found), due[0] if due else None)
        self.assertIs(is_right(piled(one, other)), is_right(one) and is_right(other) and found is None)

    def test_seam_of_a_pile_above_60_courses(self):
        one = Wall(STOCK, [(2, 3), (3, 2)] * 30)
        self.assertEqual(seam_clash(one, one), None)
        self.assertEqual(told(seam_clash(one, upturned(one))), (60, 59, 3, 3))

    def test_seam_with_reach_2(self):
        stock = Stock((2, 3, 5), 1, 2)
        one = Wall(stock, [(2, 3), (5,)])
        self.assertEqual(told(seam_clash(one, Wall(stock, [(2, 3)]))), (2, 0, 2, 2))
        self.assertEqual(seam_clash(one, Wall(stock, [(3, 2), (2, 3)])), None)
        self.assertEqual(told(seam_clash(Wall(stock, [(5,), (2, 3)]), Wall(stock, [(5,), (2, 3)]))), (3, 1, 2, 2))


class Parts(Case):
    def test_parts(self):
        for first in range(4):
            for last in range(first, 4):
                self.assertEqual(part_of(WALL, first, last), Wall(STOCK, WALL.courses[first:last + 1]))
        self.assertEqual(part_of(WALL, 0, 3), WALL)

    def test_parts_of_a_right_wall_are_right(self):
        wall = Wall(STOCK, [(2, 3), (3, 2)] * 3)
        for first in range(6):
            for last in range(first, 6):
                self.assertIs(is_right(part_of(wall, first, last)), True)

    def test_no_courses(self):
        for first, last in ((-1, 2), (2, 1), (0, 4), (4, 4), (-1, -1), (3, 2), (10, 20)):
            self.refused("NoCourses", {}, part_of, WALL, first, last)
        for thing in NOT_WHOLE:
            self.refused("NoCourses", {}, part_of, WALL, thing, 3)
            self.refused("NoCourses", {}, part_of, WALL, 0, thing)

    def test_turned(self):
        self.assertEqual(wall_mirrored(WALL), Wall(STOCK, [(3, 2, 2), (2, 2, 3), (2, 3, 2), (3, 2, 2)]))
        self.assertEqual(upturned(WALL), Wall(STOCK, [(2, 2, 3), (2, 3, 2), (3, 2, 2), (2, 2, 3)]))

    def test_turned_walls_have_as_many_clashes(self):
        for stock in (STOCK, Stock((2, 3), 2, 2)):
            for wall in walls(stock, 7, (1, 2, 3)):
                many = len(list(all_clashes(wall)))
                self.assertEqual(len(list(all_clashes(wall_mirrored(wall)))), many)
                self.assertEqual(len(list(all_clashes(upturned(wall)))), many)


class Replaced(Case):
    def test_check_number(self):
        for number in range(4):
            self.assertEqual(check_number(WALL, number), number)
        for number in (-1, 4, *NOT_WHOLE):
            self.refused("NoNumber", {"number": number}, check_number, WALL, number)

    def test_with_course(self):
        for number in range(4):
            courses = list(WALL.courses)
            courses[number] = (3, 2, 2)
            self.assertEqual(with_course(WALL, number, [3, 2, 2]), Wall(STOCK, courses))

    def test_with_course_refuses_in_order(self):
        for number in (-1, 4, *NOT_WHOLE):
            self.refused("NoNumber", {"number": number}, with_course, WALL, number, ())
        for thing in ((), (9,), (2, True), (2,) * 201, *NOT_SEQUENCES):
            self.refused("BadWall", {"index": 2, "what": "course"}, with_course, WALL, 2, thing)
        self.refused("BadWall", {"index": 3, "what": "length"}, with_course, WALL, 3, (2, 3))
        self.refused("BadWall", {"index": 0, "what": "length"}, with_course, Wall(STOCK, [(2, 3)]), 0, (2, 2))

    def test_exchanged(self):
        self.assertEqual(exchanged(WALL, 1, 3).courses, ((2, 2, 3), (2, 2, 3), (2, 3, 2), (3, 2, 2)))
        self.assertEqual(exchanged(WALL, 3, 1), exchanged(WALL, 1, 3))
        for number in range(4):
            self.assertEqual(exchanged(WALL, number, number), WALL)

    def test_exchanged_refuses_the_first(self):
        for number in (-1, 4, *NOT_WHOLE):
            self.refused("NoNumber", {"number": number}, exchanged, WALL, number, 9)
            self.refused("NoNumber", {"number": number}, exchanged, WALL, 0, number)

    def test_nothing_is_changed(self):
        before = Wall(STOCK, WALL.courses)
        for made in (with_course(WALL, 0, (3, 2, 2)), exchanged(WALL, 0, 1), upturned(WALL), wall_mirrored(WALL)):
            self.assertEqual(WALL, before)
            self.assertEqual(made.stock, STOCK)
