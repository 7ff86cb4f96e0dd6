"""[9.9] to [9.11]: bundles, what rests on them, what comes down, and orders of taking."""

from itertools import combinations, permutations

from jointsapart.stock import Stock
from jointsapart.takings import Falls, check_bundle, does_rest, is_steady, left_after, order_fault, take_order
from jointsapart.walls import Wall
from tests.helper import NOT_SEQUENCES, Case, bricks_of, slow_rests, slow_steady
from tests.test_shares import not_bricks

TWO = Stock((2, 3))
WALLS = [Wall(TWO, [(2, 3), (3, 2), (2, 3)]), Wall(TWO, [(2, 3)]), Wall(Stock((1, 4)), [(1,) * 4, (4,), (1,) * 4]),
         Wall(Stock((2, 4)), [(2, 2), (4,), (2, 2)]), Wall(Stock((1, 3)), [(1, 1, 1), (3,), (1, 1, 1), (3,)]),
         Wall(Stock((1, 2, 3)), [(2, 2), (1, 2, 1), (3, 1)]), Wall(Stock((8,)), [(8,)] * 4),
         Wall(Stock((1, 2, 5)), [(2, 1, 2), (5,), (1, 2, 2)])]


def some_bundles(wall):
    bricks = bricks_of(wall)
    for many in range(4):
        yield from combinations(bricks, many)
    yield tuple(bricks)
    yield tuple(bricks[::2])
    yield tuple(bricks[1::2])


class Bundles(Case):
    def test_any_order(self):
        wall = WALLS[0]
        bundle = [(2, 1), (0, 0), (1, 1)]
        found = check_bundle(wall, bundle)
        bundle.append(5)
        self.same_tuple(found, ((0, 0), (1, 1), (2, 1)))
        self.same_tuple(check_bundle(wall, ()), ())
        self.same_tuple(check_bundle(wall, []), ())
        self.same_tuple(check_bundle(wall, tuple(bricks_of(wall)[::-1])), tuple(bricks_of(wall)))

    def refusals(self, wall, function):
        for bundle in NOT_SEQUENCES:
            self.refused("BadBundle", {"index": 0}, function, bundle)
        good = bricks_of(wall)[-2:]
        for wrong in [*not_bricks(wall), *good]:
            self.refused("BadBundle", {"index": 2}, function, [*good, wrong, None])
        self.refused("BadBundle", {"index": 0}, function, ((9, 9),))
        self.refused("BadBundle", {"index": 1}, function, (good[0], list(good[1])))

    def test_refused(self):
        for wall in WALLS[:4]:
            for function in (check_bundle, is_steady, left_after, take_order):
                self.refusals(wall, lambda bundle: function(wall, bundle))
            self.refusals(wall, lambda bundle: does_rest(wall, (0, 0), bundle))
            for wrong in not_bricks(wall):
                self.refused("BadBrick", {"brick": wrong}, does_rest, wall, wrong, None)


class Resting(Case):
    def test_against_the_words_of_the_document(self):
        for wall in WALLS:
            for bundle in some_bundles(wall):
                for brick in bricks_of(wall):
                    self.assertIs(does_rest(wall, brick, list(bundle)), slow_rests(wall, brick, bundle))

    def test_a_brick_that_ends_just_at_the_middle(self):
        wall = WALLS[3]
        self.assertIs(does_rest(wall, (1, 0), [(0, 0)]), True)
        self.assertIs(does_rest(wall, (1, 0), [(0, 1)]), True)
        self.assertIs(does_rest(wall, (1, 0), []), False)
        # Of four bricks of 1 under one of 4 each inner one alone is enough, and of the outer ones both together.
        wall = WALLS[2]
        for at in range(4):
            self.assertIs(does_rest(wall, (1, 0), [(0, at)]), at in (1, 2))
        self.assertIs(does_rest(wall, (1, 0), [(0, 3), (0, 0)]), True)

    def test_common_lengths_of_0_and_1(self):
        wall = Wall(Stock((2, 3)), [(2, 3), (2, 3)])
        # The brick from 2 to 5 lies beside the one from 0 to 2, not over it.
        self.assertIs(does_rest(wall, (1, 1), [(0, 0)]), False)
        self.assertIs(does_rest(wall, (1, 1), [(0, 1)]), True)
        wall = Wall(Stock((2, 3)), [(2, 3), (3, 2)])
        self.assertIs(does_rest(wall, (1, 0), [(0, 1)]), False)
        self.assertIs(does_rest(wall, (1, 0), [(0, 0)]), True)
        wall = Wall(Stock((1, 2)), [(1, 2), (2, 1)])
        self.assertIs(does_rest(wall, (1, 0), [(0, 1)]), True)
        self.assertIs(does_rest(wall, (1, 0), [(0, 0)]), True)

    def test_foot_bricks(self):
        for wall in WALLS:
            for number in range(len(wall.courses[0])):
                self.assertIs(does_rest(wall, (0, number), []), True)

    def test_bricks_two_courses_down_or_of_the_own_course_bear_nothing(self):
        wall = WALLS[6]
        self.assertIs(does_rest(wall, (2, 0), [(0, 0), (2, 0), (3, 0)]), False)
        self.assertIs(does_rest(wall, (2, 0), [(1, 0)]), True)


class Steady(Case):
    def test_all_bundles(self):
        for wall in WALLS:
            steady = set(slow_steady(wall))
            bricks = bricks_of(wall)
            for bits in range(0, 1 << len(bricks), 1 if len(bricks) < 9 else 7):
                bundle = [brick for at, brick in enumerate(bricks) if bits >> at & 1]
                self.assertIs(is_steady(wall, bundle[::-1]), frozenset(bundle) in steady)

    def test_what_is_left(self):
        for wall in WALLS:
            steady = slow_steady(wall)
            for taken in some_bundles(wall):
                rest = frozenset(bricks_of(wall)) - frozenset(taken)
                greatest = frozenset().union(*[bundle for bundle in steady if bundle <= rest])
                due = (tuple(sorted(greatest)), tuple(sorted(rest - greatest)))
                self.same_tuple(left_after(wall, list(taken)[::-1]), due)

    def test_at_once_or_one_after_another(self):
        for wall in WALLS:
            for taken in list(some_bundles(wall))[::9]:
                left, down = left_after(wall, taken)
                for order in list(permutations(taken))[:6]:
                    gone = []
                    for brick in order:
                        # What came down on the way is gone.
                        gone = [*gone, brick] if brick not in gone else gone
                        gone += left_after(wall, gone)[1]
                    self.assertEqual(left_after(wall, gone), (left, ()))
                    self.assertEqual(sorted(gone), sorted([*taken, *down]))

    def test_60_courses(self):
        wall = Wall(Stock((1, 2)), [(2,) * 200, (1,) + (2,) * 199 + (1,)] * 30)
        left, down = left_after(wall, [(0, number) for number in range(200)])
        self.assertEqual((left, len(down)), ((), 59 * 200 + 30))
        left, down = left_after(wall, [])
        self.assertEqual((len(left), down), (59 * 200 + 230, ()))


class Orders(Case):
    def test_orders(self):
        for wall in WALLS:
            for bundle in some_bundles(wall):
                found = take_order(wall, list(bundle))
                down = left_after(wall, bundle)[1]
                if down:
                    self.assertIs(type(found), Falls)
                    self.assertEqual(found.brick, down[0])
                else:
                    self.same_tuple(found, found)
                    self.assertEqual(sorted(found), sorted(bundle))
                    self.assertIs(order_fault(wall, found), None)

    def test_judged_against_each_step(self):
        for wall in WALLS:
            for bundle in list(some_bundles(wall))[::3]:
                for order in list(permutations(bundle))[:7]:
                    steps = [left_after(wall, order[:many])[1] for many in range(len(order) + 1)]
                    self.assertEqual(order_fault(wall, list(order)), "falls" if any(steps) else None)

    def test_what_two_orders_have_in_common(self):
        for wall in WALLS:
            bundles = [set(bundle) for bundle in some_bundles(wall) if not isinstance(take_order(wall, bundle), Falls)]
            for one in bundles[::5]:
                for other in bundles[::7]:
                    self.assertIs(type(take_order(wall, sorted(one & other))), tuple)

    def test_words(self):
        wall = WALLS[0]
        self.assertIs(order_fault(wall, ()), None)
        self.assertIs(order_fault(wall, ((2, 0), (2, 1))), None)
        # Higher courses need not be taken first.
        self.assertIs(order_fault(wall, [(2, 1), (1, 1), (2, 0)]), None)
        self.assertEqual(order_fault(wall, bricks_of(wall)), "falls")
        self.assertIs(order_fault(wall, bricks_of(wall)[::-1]), None)
        for order in (*NOT_SEQUENCES, *[((2, 0), wrong) for wrong in [*not_bricks(wall), (2, 0)]]):
            self.assertEqual(order_fault(wall, order), "bricks")
        # A wrong entry behind a fall is looked for first.
        self.assertEqual(order_fault(wall, [*bricks_of(wall), None]), "bricks")

    def test_results_keep_what_they_are_given(self):
        brick = []
        self.assertIs(Falls(brick).brick, brick)
