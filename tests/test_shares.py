"""[9.4] to [9.6]: shares, spreads, and all loads of one sum."""

from fractions import Fraction

from jointsapart.loads import load_rows
from jointsapart.shares import Extreme, check_brick, heaviest_load, lightest_load, share_rows, shares_of, spread_of
from jointsapart.stock import Stock
from jointsapart.walls import Wall, is_right
from jointsapart.wallwork import upturned
from tests.helper import NOT_RATIOS, NOT_WHOLE, Case, ratio_from, slow_loads
from tests.test_loads import TWO, WALLS, some_loads


def units(wall):
    """All loads with 1 for one topmost brick and 0 for the others."""
    many = len(wall.courses[-1])
    return [[(1, 1) if at == number else (0, 1) for at in range(many)] for number in range(many)]


def bricks_of(wall):
    return [(course, number) for course, row in enumerate(wall.courses) for number in range(len(row))]


def not_bricks(wall):
    """Things that are no tuples of a brick of the wall."""
    top = len(wall.courses[-1])
    return [(len(wall), 0), (-1, 0), (0, -1), (len(wall) - 1, top), [0, 0], (0,), (0, 0, 0), (), None, 0, "00", (True, 0), (0, False),
            (0, None), (None, 0), ("0", 0)]


class Shares(Case):
    def test_check_brick(self):
        for wall in WALLS:
            for brick in bricks_of(wall):
                self.assertEqual(check_brick(wall, brick), brick)
            for wrong in not_bricks(wall):
                self.refused("BadBrick", {"brick": wrong}, check_brick, wall, wrong)
                self.refused("BadBrick", {"brick": wrong}, shares_of, wall, wrong)

    def test_shares_are_the_loads_of_units(self):
        for wall in WALLS:
            rows = [slow_loads(wall, loads, (0, 1)) for loads in units(wall)]
            for course, number in bricks_of(wall):
                due = tuple(ratio_from(row[course][number]) for row in rows)
                self.same_tuple(shares_of(wall, (course, number)), due)
            self.same_tuple(share_rows(wall), tuple(tuple(ratio_from(share) for share in row[0]) for row in rows))

    def test_by_hand(self):
        self.assertEqual(share_rows(WALLS[0]), (((2, 3), (1, 3)), ((0, 1), (1, 1))))
        self.assertEqual(shares_of(WALLS[0], (0, 1)), ((1, 3), (1, 1)))
        self.assertEqual(shares_of(WALLS[0], (1, 0)), ((1, 1), (0, 1)))
        self.assertEqual(share_rows(WALLS[2]), (((1, 1), (0, 1)), ((0, 1), (1, 1))))

    def test_a_row_has_the_sum_1(self):
        for wall in WALLS:
            for row in share_rows(wall):
                self.assertEqual(sum(Fraction(*share) for share in row), 1)

    def test_each_load_is_the_own_one_and_the_shares(self):
        for wall in WALLS:
            own = load_rows(wall, ((0, 1),) * len(wall.courses[-1]), (2, 3))
            for loads in some_loads(wall):
                rows = load_rows(wall, loads, (2, 3))
                for course, number in bricks_of(wall):
                    shares = shares_of(wall, (course, number))
                    got = sum(Fraction(*load) * Fraction(*share) for load, share in zip(loads, shares))
                    self.assertEqual(Fraction(*rows[course][number]), Fraction(*own[course][number]) + got)

    def test_reciprocal_in_every_wall(self):
        for wall in WALLS:
            rows, turned = share_rows(wall), share_rows(upturned(wall))
            for top, upper in enumerate(wall.courses[-1]):
                for foot, lower in enumerate(wall.courses[0]):
                    self.assertEqual(Fraction(*rows[top][foot]) * upper, Fraction(*turned[foot][top]) * lower)

    def test_60_courses(self):
        wall = Wall(TWO, [(2, 2, 3), (3, 2, 2)] * 30)
        row = share_rows(wall)[2]
        self.assertEqual(sum(Fraction(*share) for share in row), 1)
        self.assertEqual(shares_of(wall, (0, 1))[2], row[1])
        # From far above each foot brick gets nearly the share of its length.
        self.assertLess(abs(Fraction(*row[0]) - Fraction(2, 7)), Fraction(1, 1000))


class Spreads(Case):
    def test_against_the_shares(self):
        for wall in WALLS:
            for number, row in enumerate(share_rows(wall)):
                got = [foot for foot, share in enumerate(row) if share != (0, 1)]
                self.same_tuple(spread_of(wall, number), (got[0], got[-1]))
                self.assertEqual(got, list(range(got[0], got[-1] + 1)))

    def test_it_reaches_the_ends(self):
        wall = Wall(TWO, [(2, 2, 3), (3, 2, 2)] * 3)
        self.assertEqual([spread_of(wall, number) for number in range(3)], [(0, 2)] * 3)
        wall = Wall(Stock((1, 2)), [(2,) * 100, (1,) + (2,) * 99 + (1,)] * 30)
        self.assertEqual(spread_of(wall, 0), (0, 29))
        self.assertEqual(spread_of(wall, 100), (70, 99))
        self.assertEqual(spread_of(wall, 50), (20, 79))

    def test_each_bed_of_a_right_wall_widens_it(self):
        walls = [wall for wall in WALLS if is_right(wall)] + [Wall(Stock((3, 4, 5), 2), [(3, 4, 5), (5, 4, 3)] * 2)]
        self.assertGreater(len(walls), 5)
        for wall in walls:
            foot = wall.courses[0]
            widened = (len(wall) - 1) * wall.stock.lap
            for number in range(len(wall.courses[-1])):
                first, last = spread_of(wall, number)
                left, right = sum(wall.courses[-1][:number]), sum(wall.courses[-1][:number + 1])
                self.assertLessEqual(sum(foot[:first]), max(0, left - widened))
                self.assertGreaterEqual(sum(foot[:last + 1]), min(wall.length, right + widened))

    def test_refused(self):
        for number in (2, -1, *NOT_WHOLE):
            self.refused("NoNumber", {"number": number}, spread_of, WALLS[0], number)


class Extremes(Case):
    def test_against_the_units(self):
        for wall in WALLS:
            for total in ((0, 1), (1, 1), (7, 3)):
                for weight in ((0, 1), (2, 3)):
                    rows = [slow_loads(wall, [ratio_from(Fraction(*load) * Fraction(*total)) for load in loads], weight)
                            for loads in units(wall)]
                    for course, number in bricks_of(wall):
                        loads = [row[course][number] for row in rows]
                        for function, best in ((heaviest_load, max(loads)), (lightest_load, min(loads))):
                            found = function(wall, (course, number), total, weight)
                            self.assertIs(type(found), Extreme)
                            self.assertEqual(found.load, ratio_from(best))
                            self.assertEqual(found.number, loads.index(best))

    def test_no_loads_of_this_sum_are_beyond(self):
        wall = WALLS[6]
        for brick in bricks_of(wall):
            for loads in some_loads(wall):
                total = ratio_from(sum(Fraction(*load) for load in loads))
                load = Fraction(*load_rows(wall, loads, (1, 2))[brick[0]][brick[1]])
                self.assertLessEqual(load, Fraction(*heaviest_load(wall, brick, total, (1, 2)).load))
                self.assertGreaterEqual(load, Fraction(*lightest_load(wall, brick, total, (1, 2)).load))

    def test_a_sum_of_0(self):
        found = heaviest_load(WALLS[0], (0, 1), (0, 1), (1, 1))
        self.assertEqual((found.load, found.number), ((6, 1), 0))
        found = heaviest_load(WALLS[0], (0, 1), (3, 1), (1, 1))
        self.assertEqual((found.load, found.number), ((9, 1), 1))
        found = lightest_load(WALLS[0], (0, 1), (3, 1), (0, 1))
        self.assertEqual((found.load, found.number), ((1, 1), 0))

    def test_refused_in_order(self):
        for function in (heaviest_load, lightest_load):
            for wrong in not_bricks(WALLS[0]):
                self.refused("BadBrick", {"brick": wrong}, function, WALLS[0], wrong, None, None)
            for wrong in ((-1, 3), *NOT_RATIOS):
                self.refused("BadTotal", {}, function, WALLS[0], (0, 0), wrong, None)
                self.refused("BadWeight", {}, function, WALLS[0], (0, 0), (0, 1), wrong)

    def test_results_keep_what_they_are_given(self):
        load, number = [], []
        self.assertIs(Extreme(load, number).load, load)
        self.assertIs(Extreme(load, number).number, number)
