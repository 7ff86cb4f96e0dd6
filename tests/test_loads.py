"""[9.1] to [9.3]: loads, what the bricks bear, and even pressure."""

from fractions import Fraction

from jointsapart.course import courses_of
from jointsapart.loads import check_loads, check_weight, even_loads, feet_of, load_rows
from jointsapart.stock import Stock
from jointsapart.walls import Wall
from tests.helper import NOT_SEQUENCES, Case, NOT_RATIOS, ratio_from, slow_loads

TWO = Stock((2, 3))
# Bricks that lie over one brick and over many, right walls and others, one course and several.
WALLS = [Wall(TWO, [(2, 3), (3, 2)]), Wall(TWO, [(2, 3), (2, 3)]), Wall(TWO, [(2, 3)]), Wall(Stock((1, 5)), [(1,) * 5, (5,)]),
         Wall(Stock((1, 5)), [(5,), (1,) * 5]), Wall(Stock((1, 2, 3, 7)), [(1, 2, 3, 1), (7,), (3, 1, 3), (2, 2, 2, 1), (1, 3, 3)]),
         Wall(TWO, [(2, 2, 3), (3, 2, 2), (2, 3, 2), (2, 2, 3)]), Wall(Stock((8,)), [(8,)]), Wall(Stock((1,)), [(1,), (1,)]),
         Wall(Stock((3, 4, 5), 2), [(3, 4, 5), (4, 5, 3), (5, 3, 4), (4, 4, 4)])]
WEIGHTS = [(0, 1), (1, 1), (2, 3), (10 ** 30, 7)]


def some_loads(wall):
    many = len(wall.courses[-1])
    return [((0, 1),) * many, [(at + 1, 1) for at in range(many)], tuple([(1, at + 2) for at in range(many)]),
            ((0, 1),) * (many - 1) + ((5, 3),)]


class Checks(Case):
    def test_loads(self):
        wall = WALLS[5]
        loads = [(1, 2), (0, 1), (10 ** 299, 3)]
        found = check_loads(wall, loads)
        loads.append(5)
        self.same_tuple(found, ((1, 2), (0, 1), (10 ** 299, 3)))
        self.same_tuple(check_loads(wall, found), found)

    def test_loads_that_are_refused(self):
        for function in (lambda loads: check_loads(WALLS[5], loads), lambda loads: load_rows(WALLS[5], loads, None),
                         lambda loads: feet_of(WALLS[5], loads, None)):
            for loads in ((), ((1, 1),) * 2, ((1, 1),) * 4, *NOT_SEQUENCES):
                self.refused("BadLoads", {"index": 0, "what": "many"}, function, loads)
            for index in range(3):
                for wrong in ((-1, 1), *NOT_RATIOS):
                    loads = [(1, 1), (0, 1), (2, 3)]
                    loads[index] = wrong
                    self.refused("BadLoads", {"index": index, "what": "load"}, function, [*loads[:index + 1], *[5] * (2 - index)])

    def test_weight(self):
        for weight in WEIGHTS:
            self.assertEqual(check_weight(weight), weight)
        for wrong in ((-1, 2), *NOT_RATIOS):
            self.refused("BadWeight", {}, check_weight, wrong)
            self.refused("BadWeight", {}, load_rows, WALLS[0], ((0, 1),) * 2, wrong)
            self.refused("BadWeight", {}, feet_of, WALLS[0], ((0, 1),) * 2, wrong)


class Borne(Case):
    def test_against_the_words_of_the_document(self):
        for wall in WALLS:
            for weight in WEIGHTS:
                for loads in some_loads(wall):
                    due = tuple(tuple(ratio_from(load) for load in row) for row in slow_loads(wall, loads, weight))
                    self.same_tuple(load_rows(wall, loads, weight), due)
                    self.same_tuple(feet_of(wall, loads, weight), due[0])

    def test_by_hand(self):
        # The upper brick of 3 lies over the whole brick of 2 and over 1 of the brick of 3.
        self.assertEqual(load_rows(WALLS[0], ((3, 1), (0, 1)), (0, 1)), (((2, 1), (1, 1)), ((3, 1), (0, 1))))
        self.assertEqual(load_rows(WALLS[0], ((3, 1), (1, 1)), (0, 1)), (((2, 1), (2, 1)), ((3, 1), (1, 1))))
        self.assertEqual(load_rows(WALLS[0], ((0, 1), (0, 1)), (1, 1)), (((4, 1), (6, 1)), ((3, 1), (2, 1))))
        self.assertEqual(feet_of(WALLS[3], ((7, 1),), (0, 1)), ((7, 5),) * 5)
        self.assertEqual(feet_of(WALLS[7], ((7, 2),), (1, 2)), ((15, 2),))

    def test_sums_of_rows(self):
        for wall in WALLS:
            for loads in some_loads(wall):
                rows = [sum(Fraction(*load) for load in row) for row in load_rows(wall, loads, (2, 3))]
                above = sum(Fraction(*load) for load in loads)
                for total in rows[::-1]:
                    above += Fraction(2, 3) * wall.length
                    self.assertEqual(total, above)

    def test_all_walls_of_three_courses(self):
        courses = list(courses_of(Stock((1, 2, 3)), 5))
        for at in range(0, len(courses) ** 3, 17):
            picked = [courses[at % 13], courses[at // 13 % 13], courses[at // 169]]
            wall = Wall(Stock((1, 2, 3)), picked)
            loads = some_loads(wall)[1]
            self.assertEqual([[Fraction(*load) for load in row] for row in load_rows(wall, loads, (1, 2))],
                             slow_loads(wall, loads, (1, 2)))

    def test_60_courses_of_length_400(self):
        wall = Wall(Stock((5, 7, 8)), [(5,) * 80, (8,) * 50, (7, 5, 8) * 20] * 20)
        rows = load_rows(wall, ((0, 1),) * 60, (1, 1))
        self.assertEqual(sum(Fraction(*load) for load in rows[0]), 60 * 400)
        # Under their own weight alone the pressure is even.
        self.assertEqual(rows[0], ((300, 1),) * 80)


class Even(Case):
    def test_loads(self):
        for wall in WALLS:
            self.same_tuple(even_loads(wall, (2, 3)), tuple(ratio_from(Fraction(2, 3) * brick) for brick in wall.courses[-1]))
            self.same_tuple(even_loads(wall, (0, 1)), ((0, 1),) * len(wall.courses[-1]))

    def test_the_pressure_stays_even_in_every_wall(self):
        for wall in WALLS:
            for pressure in ((0, 1), (2, 3), (7, 1)):
                for weight in WEIGHTS:
                    rows = load_rows(wall, even_loads(wall, pressure), weight)
                    for number, row in enumerate(rows):
                        each = Fraction(*pressure) + (len(wall) - number) * Fraction(*weight)
                        self.assertEqual([Fraction(*load) for load in row], [each * brick for brick in wall.courses[number]])

    def test_refused(self):
        for wrong in ((-1, 2), *NOT_RATIOS):
            self.refused("BadPressure", {}, even_loads, WALLS[0], wrong)
