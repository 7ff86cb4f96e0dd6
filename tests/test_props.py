"""[9.12] and [9.13]: least props, least takings, and the weakest bricks."""

from itertools import combinations, product

from jointsapart.props import Weakest, fewest_takings, least_props, least_takings
from jointsapart.stock import Stock
from jointsapart.takings import is_steady, left_after
from jointsapart.walls import Wall
from tests.helper import NOT_WHOLE, Case, bricks_of, in_bundle_order, slow_courses, slow_steady
from tests.test_shares import not_bricks
from tests.test_takings import TWO, WALLS

# 14 bricks, and one more.
GREAT = Wall(Stock((1, 2, 3)), [(1, 1, 1, 1, 1), (1, 1, 1, 2), (1, 2, 2), (2, 3)])
TOO_GREAT = Wall(Stock((1, 2, 3)), [(1, 1, 1, 1, 1), (1, 1, 1, 2), (1, 2, 1, 1), (2, 3)])


def least_of_all(bundles):
    return in_bundle_order(bundle for bundle in bundles if not any(other < bundle for other in bundles))


def walls():
    found = list(WALLS)
    for length in (3, 4):
        for courses in product(slow_courses((1, 2, 3), length), repeat=3):
            if sum(map(len, courses)) in (5, 7):
                found.append(Wall(Stock((1, 2, 3)), courses))
    return found[:60]


class Least(Case):
    def check(self, wall, steady):
        subsets = [frozenset(part) for many in range(len(bricks_of(wall)) + 1) for part in combinations(bricks_of(wall), many)]
        for brick in bricks_of(wall):
            props = least_of_all([bundle for bundle in steady if brick in bundle])
            self.same_tuple(least_props(wall, brick), props)
            takings = [bundle for bundle in subsets if brick not in bundle and brick in left_after(wall, tuple(bundle))[1]]
            self.same_tuple(least_takings(wall, brick), least_of_all(takings))

    def test_small_walls(self):
        for wall in walls():
            self.check(wall, slow_steady(wall))

    def test_foot_bricks(self):
        for wall in WALLS:
            for number in range(len(wall.courses[0])):
                self.assertEqual(least_props(wall, (0, number)), (((0, number),),))
                self.assertEqual(least_takings(wall, (0, number)), ())

    def test_14_bricks(self):
        self.assertEqual(len(bricks_of(GREAT)), 14)
        steady = slow_steady(GREAT)
        for brick in bricks_of(GREAT):
            props = least_of_all([bundle for bundle in steady if brick in bundle])
            self.same_tuple(least_props(GREAT, brick), props)
            takings = least_takings(GREAT, brick)
            self.assertEqual(takings, in_bundle_order(takings))
            for taking in takings:
                # Each least prop has a brick in common with it, and none can be left out.
                self.assertTrue(all(set(taking) & set(prop) for prop in props))
                self.assertIn(brick, left_after(GREAT, taking)[1])
                for at in range(len(taking)):
                    self.assertNotIn(brick, left_after(GREAT, taking[:at] + taking[at + 1:])[1])
        self.assertGreater(len(least_takings(GREAT, (3, 1))), 1)

    def test_by_hand(self):
        wall = WALLS[2]
        self.assertEqual(least_props(wall, (1, 0)), (((0, 1), (1, 0)), ((0, 2), (1, 0)), ((0, 0), (0, 3), (1, 0))))
        self.assertEqual(least_takings(wall, (1, 0)), (((0, 0), (0, 1), (0, 2)), ((0, 1), (0, 2), (0, 3))))
        self.assertEqual(least_takings(wall, (2, 0)), (((1, 0),), ((0, 0), (0, 1), (0, 2)), ((0, 1), (0, 2), (0, 3))))

    def test_props_are_steady(self):
        for brick in bricks_of(GREAT):
            for prop in least_props(GREAT, brick):
                self.assertTrue(is_steady(GREAT, prop))

    def test_refused_in_order(self):
        for function in (least_props, least_takings):
            for wrong in not_bricks(GREAT):
                self.refused("BadBrick", {"brick": wrong}, function, GREAT, wrong, most=0)
            for most in (0, -1, *NOT_WHOLE):
                self.refused("BadMost", {}, function, TOO_GREAT, (0, 0), most=most)
            self.refused("TooManyBricks", {"most": 14}, function, TOO_GREAT, (0, 0))
            self.refused("TooManyBricks", {"most": 13}, function, GREAT, (0, 0), most=13)
            self.refused("TooManyBricks", {"most": 1}, function, GREAT, (0, 0), most=1)
            self.assertEqual(function(GREAT, (2, 1), most=10 ** 30), function(GREAT, (2, 1)))


class Fewest(Case):
    def test_small_walls(self):
        for wall in walls():
            top = len(wall) - 1
            found = fewest_takings(wall)
            if top == 0:
                self.assertIs(found, None)
                continue
            below = [brick for brick in bricks_of(wall) if brick[0] < top]
            due = next((bundle, fallen) for many in range(1, len(below) + 1) for bundle in combinations(below, many)
                       if (fallen := tuple(brick for brick in left_after(wall, bundle)[1] if brick[0] == top)))
            self.assertIs(type(found), Weakest)
            self.same_tuple((found.bundle, found.fallen), due)

    def test_by_hand(self):
        found = fewest_takings(WALLS[6])
        self.assertEqual((found.bundle, found.fallen), (((0, 0),), ((3, 0),)))
        # All three top bricks lie on one long brick, which rests without its middle one, too.
        found = fewest_takings(WALLS[7])
        self.assertEqual((found.bundle, found.fallen), (((1, 0),), ((2, 0), (2, 1), (2, 2))))

    def test_refused_in_order(self):
        for most in (0, -1, *NOT_WHOLE):
            self.refused("BadMost", {}, fewest_takings, WALLS[1], most=most)
        self.refused("TooManyBricks", {"most": 1}, fewest_takings, WALLS[1], most=1)
        self.refused("TooManyBricks", {"most": 14}, fewest_takings, TOO_GREAT)
        self.assertEqual(fewest_takings(GREAT).bundle, ((1, 3),))
        self.assertIs(fewest_takings(Wall(TWO, [(2,) * 7]), most=7), None)

    def test_results_keep_what_they_are_given(self):
        bundle, fallen = [], []
        self.assertIs(Weakest(bundle, fallen).bundle, bundle)
        self.assertIs(Weakest(bundle, fallen).fallen, fallen)
