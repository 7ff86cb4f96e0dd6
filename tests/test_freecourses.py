"""[2.6]: free courses."""

from itertools import islice

from jointsapart.course import count_courses
from jointsapart.freecourses import count_free, first_free, free_courses
from jointsapart.stock import Stock
from jointsapart.walls import Wall, is_right
from jointsapart.wallwork import with_course
from tests.helper import NOT_WHOLE, Case, slow_clashes, slow_courses

STOCKS = [Stock((2, 3)), Stock((2, 3), 1, 2), Stock((1, 2, 4), 2, 2), Stock((1, 2), 4, 1), Stock((2, 4, 8), 3, 2)]


def slow_free(wall, number):
    """All courses that are apart from each one of the wall within the reach, by trying each."""
    near = [course for at, course in enumerate(wall.courses) if 1 <= abs(at - number) <= wall.stock.reach]
    return [course for course in slow_courses(wall.stock.bricks, wall.length)
            if not any(slow_clashes(wall.stock, course, other) for other in near)]


class Free(Case):
    def test_against_trying_each(self):
        for stock in STOCKS:
            for length in (4, 8, 10):
                courses = slow_courses(stock.bricks, length)
                for step in range(1, 6):
                    for height in (1, 2, 5):
                        self.check(Wall(stock, [courses[step * at % len(courses)] for at in range(height)]))

    def check(self, wall):
        for number in range(len(wall)):
            due = tuple(slow_free(wall, number))
            self.same_tuple(tuple(free_courses(wall, number)), due)
            self.assertEqual(count_free(wall, number), len(due))
            self.same_tuple(first_free(wall, number), due[0] if due else None)

    def test_a_right_wall_stays_right_with_free_courses_alone(self):
        for stock in (Stock((1, 2, 3)), Stock((1, 2, 3, 5), 1, 2)):
            wall = Wall(stock, [(2, 3), (3, 2), (2, 3)] if stock.reach == 1 else [(2, 3), (3, 2), (1, 3, 1)][:2] + [(5,)])
            self.assertIs(is_right(wall), True)
            for number in range(3):
                free = list(free_courses(wall, number))
                for course in slow_courses(stock.bricks, 5):
                    self.assertIs(is_right(with_course(wall, number, course)), course in free)

    def test_what_stands_at_the_number_does_not_matter(self):
        stock = Stock((2, 3))
        self.assertEqual(list(free_courses(Wall(stock, [(2, 3), (2, 3)]), 0)), [(3, 2)])
        self.assertEqual(list(free_courses(Wall(stock, [(3, 2), (2, 3)]), 0)), [(3, 2)])

    def test_neighbours_may_clash(self):
        stock = Stock((2, 3), 1, 2)
        self.assertEqual(list(free_courses(Wall(stock, [(2, 3), (2, 3), (2, 3)]), 1)), [(3, 2)])

    def test_none_is_free(self):
        wall = Wall(Stock((2,)), [(2, 2), (2, 2)])
        self.assertEqual(list(free_courses(wall, 0)), [])
        self.assertEqual(count_free(wall, 0), 0)
        self.assertIs(first_free(wall, 0), None)

    def test_near_the_ends(self):
        # Joints less than the lap from an end do not bar the end itself.
        wall = Wall(Stock((1, 8), 4), [(1, 8), (8, 1), (8, 1)])
        self.assertEqual(list(free_courses(wall, 0)), slow_free(wall, 0))
        self.assertEqual(first_free(Wall(Stock((1, 2), 4), [(1, 1), (2,)]), 1), (2,))

    def test_too_many_to_be_listed(self):
        stock = Stock((1, 2), 1, 2)
        wall = Wall(stock, [(2,) * 199 + (1, 1), (1,) * 400, (2,) * 200])
        self.assertEqual(count_free(Wall(stock, [(2,) * 200]), 0), count_courses(stock, 400))
        self.assertEqual(count_free(wall, 0), 0)
        lone = Wall(Stock((1, 2, 8)), [(8,) * 50, (8,) * 50])
        many = count_free(lone, 1)
        self.assertGreater(many, 10 ** 60)
        first = list(islice(free_courses(lone, 1), 300))
        self.assertEqual(first[0], first_free(lone, 1))
        self.assertEqual(first, sorted(first))
        self.assertEqual(first[0], ((1,) * 7 + (2,) + (1,) * 6) + ((2,) + (1,) * 6) * 48 + (1,))

    def test_without_a_long_search(self):
        # There are more beginnings than can be tried, and none of them can be gone on with to the end.
        stock = Stock((1, 3, 8))
        wall = Wall(stock, [(1,) * 400, (8,) * 49 + (1,) * 8])
        self.assertEqual(list(free_courses(wall, 0)), [])
        self.assertIs(first_free(wall, 0), None)
        self.assertEqual(count_free(wall, 0), 0)

    def test_no_number(self):
        wall = Wall(Stock((2, 3)), [(2, 3), (3, 2)])
        for number in (-1, 2, *NOT_WHOLE):
            self.refused("NoNumber", {"number": number}, lambda: list(free_courses(wall, number)))
            self.refused("NoNumber", {"number": number}, count_free, wall, number)
            self.refused("NoNumber", {"number": number}, first_free, wall, number)
