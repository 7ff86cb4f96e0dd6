"""[2.7]: what differs between two walls, and the fewest changes to a right wall."""

from itertools import product

from jointsapart.stock import Stock
from jointsapart.wallchanges import Changed, changes_between, fewest_changes
from jointsapart.walls import Wall, is_right
from tests.helper import Case, slow_courses, slow_walls


def spread_walls(stock, length, height, many):
    """Some walls of this size, evenly chosen."""
    courses = slow_courses(stock.bricks, length)
    return [Wall(stock, [courses[(step * at + step // 3) % len(courses)] for at in range(height)])
            for step in range(1, many + 1)]


class Between(Case):
    def test_numbers(self):
        stock = Stock((1, 2, 3))
        one = Wall(stock, [(1, 2), (2, 1), (3,), (1, 2)])
        self.same_tuple(changes_between(one, one), ())
        self.same_tuple(changes_between(one, Wall(stock, [(1, 2), (1, 2), (3,), (3,)])), (1, 3))
        self.same_tuple(changes_between(one, Wall(stock, [(3,), (3,), (1, 2), (3,)])), (0, 1, 2, 3))

    def test_all_couples_of_small_walls(self):
        stock = Stock((1, 2))
        walls = [Wall(stock, chosen) for chosen in product(slow_courses((1, 2), 3), repeat=2)]
        for one, other in product(walls, walls):
            self.assertEqual(changes_between(one, other),
                             tuple(at for at in (0, 1) if one.courses[at] != other.courses[at]))

    def test_60_courses(self):
        stock = Stock((1, 2))
        self.assertEqual(changes_between(Wall(stock, [(1, 2)] * 60), Wall(stock, [(1, 2)] * 59 + [(2, 1)])), (59,))

    def test_refused(self):
        stock = Stock((1, 2))
        wall = Wall(stock, [(1, 2), (2, 1)])
        for word, other in (
                ("stock", Wall(Stock((1, 2), 2), [(1, 2), (2, 1)])), ("stock", Wall(Stock((1,)), [(1,)])),
                ("length", Wall(stock, [(2,), (2,)])), ("length", Wall(stock, [(2,)])),
                ("height", Wall(stock, [(1, 2)])), ("height", Wall(stock, [(1, 2)] * 3))):
            self.refused("CannotPile", {"what": word}, changes_between, wall, other)
            self.refused("CannotPile", {"what": word}, changes_between, other, wall)


class Fewest(Case):
    STOCKS = [Stock((1, 2)), Stock((1, 2), 1, 2), Stock((2, 3), 2), Stock((1, 2, 4), 1, 2), Stock((1, 3, 4), 2, 2),
              Stock((2, 3)), Stock((4,), 1, 2)]

    def test_against_all_right_walls(self):
        for stock in self.STOCKS:
            for length in (3, 4, 5):
                for height in (1, 2, 3, 4):
                    if slow_courses(stock.bricks, length):
                        walls = slow_walls(stock, length, height)
                        for wall in spread_walls(stock, length, height, 5):
                            self.check(wall, walls)

    def check(self, wall, rights):
        found = fewest_changes(wall)
        if not rights:
            self.assertIsNone(found)
            return
        self.check_found(wall, found)
        self.assertEqual(found.number, min(sum(map(tuple.__ne__, wall.courses, right)) for right in rights))

    def check_found(self, wall, found):
        self.assertIs(type(found), Changed)
        self.assertIs(type(found.number), int)
        self.assertIs(type(found.wall), Wall)
        self.assertEqual(found.wall.stock, wall.stock)
        self.assertEqual((found.wall.length, len(found.wall)), (wall.length, len(wall)))
        self.assertIs(is_right(found.wall), True)
        self.assertEqual(len(changes_between(wall, found.wall)), found.number)

    def test_right_walls_stay(self):
        for stock, rows in ((Stock((2, 3)), [(2, 3), (3, 2), (2, 3)]), (Stock((1, 2), 1, 2), [(2, 2)]),
                            (Stock((1, 2, 3), 1, 2), [(1, 2), (2, 1)])):
            wall = Wall(stock, rows)
            found = fewest_changes(wall)
            self.assertEqual(found.number, 0)
            self.assertEqual(found.wall, wall)

    def test_60_courses(self):
        stock = Stock((1, 2, 3, 4), 1, 2)
        found = fewest_changes(Wall(stock, [(4, 4)] * 60))
        # Of three neighbours at most one can stay.
        self.assertEqual(found.number, 40)
        self.check_found(Wall(stock, [(4, 4)] * 60), found)
        two = fewest_changes(Wall(Stock((2, 3)), [(2, 3, 3)] * 59 + [(3, 3, 2)]))
        self.assertEqual(two.number, 29)
        self.check_found(Wall(Stock((2, 3)), [(2, 3, 3)] * 59 + [(3, 3, 2)]), two)

    def test_no_right_wall(self):
        self.assertIsNone(fewest_changes(Wall(Stock((2,)), [(2, 2)] * 2)))
        self.assertIsNone(fewest_changes(Wall(Stock((1, 2), 1, 2), [(1, 2)] * 3)))
        # Two courses of this length are apart, but no three.
        self.assertEqual(fewest_changes(Wall(Stock((1, 2), 1, 2), [(1, 2)] * 2)).number, 1)

    def test_lengths_8_and_9(self):
        stock = Stock((1, 2, 3))
        self.assertEqual(fewest_changes(Wall(stock, [(2, 3, 3)])).number, 0)
        self.refused("TooLong", {"most": 8}, fewest_changes, Wall(stock, [(3, 3, 3)]))
        self.refused("TooLong", {"most": 8}, fewest_changes, Wall(stock, [(3, 3, 3)] * 2))
        self.refused("TooLong", {"most": 8}, fewest_changes, Wall(Stock((8,)), [(8,) * 50]))

    def test_a_result_keeps_what_it_is_given(self):
        things = ([1], None)
        changed = Changed(*things)
        self.assertIs(changed.number, things[0])
        self.assertIs(changed.wall, things[1])
