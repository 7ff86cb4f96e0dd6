"""[7.7]: towers of four sides."""

from jointsapart.sides import exchange_corners, standard_corners
from jointsapart.sidewalks import Tallest, Walk, side_walk, walk_course, walk_fault
from jointsapart.stock import Stock
from jointsapart.towers import NoTower, Tower, tower_bricks, tower_course, tower_for, tower_height
from tests.helper import NOT_WHOLE, Case
from tests.test_sides import NOT_WORDS

STOCKS = [Stock((2, 3)), Stock((2, 3), 1, 2), Stock((1, 3), 1, 2), Stock((3, 4), 2), Stock((4, 6), 2, 2), Stock((3, 5, 8), 2, 1)]
TWO = Stock((2, 3))


class Towers(Case):
    def test_both_sides_must_walk(self):
        seen = set()
        for stock in STOCKS:
            for breadth in (1, 2):
                for word in (None, "pb", "pbmm", "ppbm"):
                    for one in range(2 * breadth + 1, 11, 2):
                        for other in range(2 * breadth + 1, 11, 3):
                            seen.add(self.check(stock, breadth, one, other, word))
        self.assertEqual(seen, {(True, True), (True, False), (False, True), (False, False)})

    def check(self, stock, breadth, one, other, word):
        corners = standard_corners(stock) if word is None else word
        walks = (side_walk(stock, breadth, one, corners), side_walk(stock, breadth, other, exchange_corners(corners)))
        told = (isinstance(walks[0], Walk), isinstance(walks[1], Walk))
        found = tower_for(stock, breadth, one, other) if word is None else tower_for(stock, breadth, one, other, word)
        height = tower_height(stock, breadth, one, other, corners=word)
        if told == (True, True):
            self.assertIs(type(found), Tower)
            self.assertEqual((found.breadth, found.one, found.other), (breadth, one, other))
            self.assertEqual((found.first.corners, found.second.corners), (corners, exchange_corners(corners)))
            self.assertIs(walk_fault(stock, breadth, one, found.first), None)
            self.assertIs(walk_fault(stock, breadth, other, found.second), None)
            self.assertIs(height, None)
        else:
            self.assertIs(type(found), NoTower)
            self.assertEqual(found.number, 1 if told[0] else 0)
            self.assertIs(type(found.tallest), Tallest)
            self.assertEqual(found.tallest.corners, walks[found.number].corners)
            self.assertEqual(len(found.tallest.courses), len(walks[found.number].courses))
            self.assertEqual(height, min(len(walk.courses) for walk in walks if isinstance(walk, Tallest)))
        return told

    def test_courses(self):
        for stock in STOCKS[:3]:
            tower = tower_for(stock, 1, 7, 9)
            if isinstance(tower, Tower):
                for number in (0, 1, 2, 3, 7, 10 ** 30):
                    self.assertEqual(tower_course(tower, number),
                                     (walk_course(tower.first, number), walk_course(tower.second, number)))
                    letters = [face[0] for face in tower_course(tower, number)]
                    self.assertIn(letters, [["p", "b"], ["b", "p"], ["m", "m"]])
        tower = tower_for(TWO, 1, 7, 9)
        for number in (-1, 10 ** 30 + 1, *NOT_WHOLE):
            self.refused("NoNumber", {"number": number}, tower_course, tower, number)

    def test_longest_sides(self):
        self.assertIs(type(tower_for(TWO, 1, 10, 10)), Tower)
        self.assertIs(type(tower_for(Stock((1, 2, 3)), 4, 10, 9)), Tower)
        self.assertIs(tower_height(Stock((1, 2, 3)), 4, 9, 10), None)

    def test_bricks(self):
        for stock in STOCKS[:3]:
            for word in (None, "pbm", "pppp"):
                tower = tower_for(stock, 1, 7, 8, word)
                if isinstance(tower, Tower):
                    for height in (1, 2, 3, 4, 5, 11):
                        due = [0] * len(stock.bricks)
                        for number in range(height):
                            for _, course in tower_course(tower, number):
                                for at, brick in enumerate(stock.bricks):
                                    due[at] += 2 * course.count(brick)
                        self.same_tuple(tower_bricks(stock, tower, height), tuple(due))
        tower = tower_for(TWO, 1, 7, 9)
        turns = tower_bricks(TWO, tower, 2)
        self.assertEqual(tower_bricks(TWO, tower, 10 ** 30), tuple(many * 10 ** 30 // 2 for many in turns))
        for height in (0, -1, 10 ** 30 + 1, *NOT_WHOLE):
            self.refused("BadHeight", {}, tower_bricks, TWO, tower, height)

    def test_results_keep_what_they_are_given(self):
        first, second = [], []
        tower = Tower(1, 2, 3, first, second)
        self.assertEqual((tower.breadth, tower.one, tower.other), (1, 2, 3))
        self.assertIs(tower.first, first)
        self.assertIs(tower.second, second)
        self.assertIs(NoTower(0, first).tallest, first)

    def test_refused_in_order(self):
        for function in (tower_for, tower_height):
            for breadth in (0, 5, *NOT_WHOLE):
                self.refused("BadBreadth", {}, function, TWO, breadth, None, None, "x")
            for side in (2, 11, *NOT_WHOLE):
                self.refused("BadLength", {}, function, TWO, 1, side, 5, "x")
                self.refused("BadLength", {}, function, TWO, 1, 5, side, "x")
            for word in NOT_WORDS:
                if word is not None:
                    self.refused("BadCorners", {}, function, TWO, 1, 3, 10, word)
