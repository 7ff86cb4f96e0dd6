"""[9.7] and [9.8]: whether the feet tell the loads."""

from fractions import Fraction
from itertools import permutations, product

from jointsapart.loads import feet_of
from jointsapart.readers import Reader, Twins, read_loads, reader_fault, reader_of, twins_fault
from jointsapart.shares import share_rows
from jointsapart.stock import Stock
from jointsapart.walls import Wall
from jointsapart.wallwork import part_of
from tests.helper import NOT_RATIOS, NOT_SEQUENCES, NOT_WHOLE, Case, ratio_from, slow_common, slow_courses, slow_loads
from tests.test_loads import TWO, WALLS, some_loads

STOCK = Stock((1, 2, 3))
HALF = Wall(Stock((1, 2)), [(2, 2), (1, 2, 1)])


def rank_of(rows):
    """The rank of a matrix of ratios, by plain elimination of fractions."""
    rows = [[Fraction(*entry) for entry in row] for row in rows]
    rank = 0
    for column in range(len(rows[0])):
        pivots = [at for at in range(rank, len(rows)) if rows[at][column]]
        if pivots:
            rows[rank], rows[pivots[0]] = rows[pivots[0]], rows[rank]
            for at in range(rank + 1, len(rows)):
                times = rows[at][column] / rows[rank][column]
                rows[at] = [entry - times * own for entry, own in zip(rows[at], rows[rank])]
            rank += 1
    return rank


class Readers(Case):
    def check(self, wall, most=60):
        found = reader_of(wall, most=most)
        rows = share_rows(wall)
        if rank_of(rows) == len(rows):
            self.assertIs(type(found), Reader)
            self.same_tuple(found.rows, found.rows)
            self.assertIs(reader_fault(wall, found), None)
            for loads in some_loads(wall):
                feet = [ratio_from(foot) for foot in slow_loads(wall, loads, (0, 1))[0]]
                told = [sum(Fraction(*foot) * Fraction(*entry) for foot, entry in zip(feet, row)) for row in found.rows]
                self.assertEqual(told, [Fraction(*load) for load in loads])
                for weight in ((0, 1), (2, 3)):
                    self.same_tuple(read_loads(wall, found, feet_of(wall, loads, weight), weight), tuple(loads))
        else:
            self.assertIs(type(found), Twins)
            self.assertIs(twins_fault(wall, found), None)
            self.same_tuple((found.one, found.other), (found.one, found.other))
            self.assertNotEqual(found.one, found.other)
            for weight in ((0, 1), (5, 2)):
                self.assertEqual(feet_of(wall, found.one, weight), feet_of(wall, found.other, weight))
        return found

    def test_walls(self):
        kinds = [type(self.check(wall)) for wall in WALLS]
        self.assertIn(Reader, kinds)
        self.assertIn(Twins, kinds)

    def test_all_walls_of_two_courses(self):
        """A reader exactly if each topmost brick can be given a foot brick under it, none twice."""
        for lower, upper in product(slow_courses((1, 2, 3), 5), repeat=2):
            wall = Wall(STOCK, [lower, upper])
            given = len(upper) <= len(lower) and any(
                all(slow_common(wall, (1, at), (0, foot)) for at, foot in enumerate(feet))
                for feet in permutations(range(len(lower)), len(upper)))
            self.assertIs(isinstance(self.check(wall), Reader), given)

    def test_three_courses(self):
        courses = slow_courses((1, 2, 3), 4)
        for picked in product(courses, repeat=3):
            wall = Wall(STOCK, picked)
            found = self.check(wall)
            above = reader_of(part_of(wall, 1, 2))
            # Twins of the upper part are twins of the wall; two parts with readers give the wall one.
            if isinstance(above, Twins):
                self.assertIs(type(found), Twins)
                self.assertIs(twins_fault(wall, above), None)
            elif isinstance(reader_of(part_of(wall, 0, 1)), Reader):
                self.assertIs(type(found), Reader)

    def test_one_course(self):
        found = self.check(Wall(TWO, [(2, 3, 2)]))
        self.assertEqual(found.rows, (((1, 1), (0, 1), (0, 1)), ((0, 1), (1, 1), (0, 1)), ((0, 1), (0, 1), (1, 1))))

    def test_60_bricks(self):
        wall = Wall(TWO, [(2, 2, 2, 3, 3), (3, 2, 2, 3, 2)] * 6)
        self.check(wall)
        self.check(Wall(Stock((1, 2)), [(1,) * 30, (1,) * 30]))
        self.check(Wall(Stock((1, 2)), [(1,) * 40, (2,) * 20]))

    def test_refused(self):
        wall = WALLS[6]
        self.assertEqual(sum(map(len, wall.courses)), 12)
        for most in (12, 13, 10 ** 30):
            self.assertEqual(type(reader_of(wall, most=most)), type(reader_of(wall)))
        for most in (11, 1):
            self.refused("TooManyBricks", {"most": most}, reader_of, wall, most=most)
        for most in (0, -1, *NOT_WHOLE):
            self.refused("BadMost", {}, reader_of, wall, most=most)
        big = Wall(Stock((1,)), [(1,) * 31])
        self.refused("TooManyBricks", {"most": 30}, reader_of, big)
        self.assertIs(type(reader_of(Wall(Stock((1,)), [(1,) * 30]))), Reader)


class Judged(Case):
    def test_readers_that_the_program_does_not_make(self):
        # One topmost brick over two feet: each row tells it whose two entries have the mean 1.
        wall = Wall(Stock((1, 2)), [(1, 1), (2,)])
        for row in (((1, 1), (1, 1)), ((2, 1), (0, 1)), ((0, 1), (2, 1)), ((-5, 3), (11, 3))):
            self.assertIs(reader_fault(wall, Reader((row,))), None)
            self.assertIs(reader_fault(wall, Reader([list(row)])), None)
            self.assertEqual(read_loads(wall, Reader((row,)), ((3, 1), (3, 1)), (1, 1)), ((2, 1),))
        for row in (((1, 1), (0, 1)), ((1, 1), (2, 1)), ((0, 1), (0, 1))):
            self.assertEqual(reader_fault(wall, Reader((row,))), "shares")

    def test_each_entry_counts(self):
        for wall in WALLS:
            found = reader_of(wall)
            if isinstance(found, Reader) and len(found.rows) == len(found.rows[0]):
                for at, row in enumerate(found.rows):
                    for foot, entry in enumerate(row):
                        rows = [list(own) for own in found.rows]
                        rows[at][foot] = ratio_from(Fraction(*entry) + Fraction(1, 7))
                        self.assertEqual(reader_fault(wall, Reader(rows)), "shares")

    def test_rows(self):
        wall = WALLS[0]
        rows = reader_of(wall).rows
        for wrong in ((), rows[:1], (*rows, rows[0]), (rows[0], rows[1][:1]), (rows[0], (*rows[1], (0, 1))), (rows[0], None),
                      *NOT_SEQUENCES, *[(rows[0], (rows[1][0], entry)) for entry in NOT_RATIOS]):
            self.assertEqual(reader_fault(wall, Reader(wrong)), "rows")
        self.assertEqual(reader_fault(wall, Reader((((1, 1), (0, 1)), ((1, 1), (0, 1))))), "shares")

    def test_twins(self):
        one, other = ((1, 1), (0, 1), (1, 1)), ((0, 1), (2, 1), (0, 1))
        self.assertIs(twins_fault(HALF, Twins(one, other)), None)
        self.assertIs(twins_fault(HALF, Twins(list(other), list(one))), None)
        self.assertIs(twins_fault(HALF, Twins(((8, 3), (0, 1), (8, 3)), [(1, 1), (10, 3), (1, 1)])), None)
        for wrong in ((), one[:2], (*one, (0, 1)), (one[0], one[1], (-1, 1)), None, "abc", *[(one[0], one[1], load) for load in NOT_RATIOS]):
            self.assertEqual(twins_fault(HALF, Twins(wrong, other)), "loads")
            self.assertEqual(twins_fault(HALF, Twins(one, wrong)), "loads")
            self.assertEqual(twins_fault(HALF, Twins(wrong, wrong)), "loads")
        self.assertEqual(twins_fault(HALF, Twins(one, one)), "equal")
        self.assertEqual(twins_fault(HALF, Twins(one, list(one))), "equal")
        self.assertEqual(twins_fault(HALF, Twins(one, ((1, 1), (2, 1), (0, 1)))), "feet")
        self.assertEqual(twins_fault(HALF, Twins(one, ((0, 1), (1, 1), (0, 1)))), "feet")


class Read(Case):
    def test_other_feet(self):
        wall = WALLS[0]
        reader = reader_of(wall)
        self.assertEqual(reader.rows, (((3, 2), (0, 1)), ((-1, 2), (1, 1))))
        self.assertEqual(read_loads(wall, reader, ((2, 1), (0, 1)), (0, 1)), ((3, 1), (-1, 1)))
        self.assertEqual(read_loads(wall, reader, [(-2, 3), (0, 1)], (0, 1)), ((-1, 1), (1, 3)))
        self.assertEqual(read_loads(wall, reader, ((0, 1), (0, 1)), (1, 1)), ((-6, 1), (-4, 1)))

    def test_a_reader_with_lists(self):
        wall = WALLS[0]
        rows = [list(row) for row in reader_of(wall).rows]
        self.same_tuple(read_loads(wall, Reader(rows), ((2, 1), (0, 1)), (0, 1)), ((3, 1), (-1, 1)))

    def test_refused(self):
        wall = WALLS[0]
        reader = reader_of(wall)
        for feet in ((), ((1, 1),), ((1, 1),) * 3, *NOT_SEQUENCES):
            self.refused("BadFeet", {"index": 0}, read_loads, wall, reader, feet, None)
        for wrong in NOT_RATIOS:
            self.refused("BadFeet", {"index": 0}, read_loads, wall, reader, (wrong, wrong), None)
            self.refused("BadFeet", {"index": 1}, read_loads, wall, reader, ((1, 1), wrong), None)
            self.refused("BadWeight", {}, read_loads, wall, reader, ((1, 1), (-1, 1)), wrong)
        self.refused("BadWeight", {}, read_loads, wall, reader, ((1, 1), (1, 1)), (-1, 1))

    def test_results_keep_what_they_are_given(self):
        one, other = [], []
        self.assertIs(Reader(one).rows, one)
        self.assertIs(Twins(one, other).one, one)
        self.assertIs(Twins(one, other).other, other)
