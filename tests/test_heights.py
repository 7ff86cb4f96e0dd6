"""[3.6], [3.7]: counted walls, and how far a wall can be gone on with."""

from jointsapart.course import courses_of
from jointsapart.heights import goes_on, most_on, walls_counted
from jointsapart.rounds import greatest_height, round_for
from jointsapart.stock import Stock
from jointsapart.walls import Wall, is_right
from tests.helper import NOT_WHOLE, Case, slow_courses, slow_lots, slow_walls

STOCKS = [Stock((2, 3)), Stock((2, 3), 1, 2), Stock((1, 2, 4), 2, 2), Stock((1, 2), 4), Stock((2, 4, 8), 3, 2),
          Stock((1, 2, 3), 1, 2), Stock((1, 3, 4), 1, 2), Stock((5,), 2, 2), Stock((2, 4, 5), 1, 2)]


class Counted(Case):
    def test_against_all_walls(self):
        for stock in STOCKS:
            for length in range(1, 8):
                for height in (1, 2, 3, 4):
                    if len(slow_courses(stock.bricks, length)) < 25:
                        self.assertEqual(walls_counted(stock, length, height), len(slow_walls(stock, length, height)))

    def test_0_above_the_greatest_height(self):
        for stock in STOCKS:
            for length in range(1, 11):
                highest = greatest_height(stock, length)
                for height in (1, 2, 3, 4, 60):
                    count = walls_counted(stock, length, height)
                    self.assertIs(type(count), int)
                    self.assertEqual(count == 0, highest is not None and height > highest)

    def test_too_many_to_be_gone_through(self):
        # The one course without joints may lie anywhere, so may whatever is apart from its neighbours.
        stock = Stock((1, 2, 3), 1, 1)
        self.assertEqual([walls_counted(stock, 3, height) for height in (1, 2, 3)], [4, 9, 25])
        counts = [walls_counted(stock, 3, height) for height in range(1, 61)]
        self.assertEqual(counts[59], self.by_steps(stock, 3, 60))
        self.assertGreater(counts[59], 10 ** 20)
        great = Stock((1, 2, 3, 4), 1, 2)
        self.assertGreater(walls_counted(great, 10, 60), 10 ** 30)
        self.assertEqual(walls_counted(great, 10, 3) // 6, len(slow_lots_of(great, 10)))

    def by_steps(self, stock, length, height):
        """Count by the topmost course alone, for reach 1."""
        courses = slow_courses(stock.bricks, length)
        counts = {course: 1 for course in courses}
        pairs = slow_walls(stock, length, 2)
        for _ in range(height - 1):
            counts = {course: sum(counts[low] for low, high in pairs if high == course) for course in courses}
        return sum(counts.values())

    def test_refused(self):
        stock = Stock((2, 3))
        self.assertEqual(walls_counted(stock, 10, 1), 7)
        self.assertEqual(walls_counted(stock, 1, 60), 0)
        for length in (0, 11, 12, -1, *NOT_WHOLE):
            self.refused("BadLength", {}, walls_counted, stock, length, 1)
            self.refused("BadLength", {}, walls_counted, stock, length, 0)
        for height in (0, 61, -1, *NOT_WHOLE):
            self.refused("BadHeight", {}, walls_counted, stock, 10, height)


def slow_lots_of(stock, length):
    """All lots of three courses, by bits of their joints."""
    bits = [sum(1 << sum(row[:many]) for many in range(1, len(row))) for row in courses_of(stock, length)]
    return [(a, b, c) for at, a in enumerate(bits) for to, b in enumerate(bits[at + 1:], at + 1) if not a & b
            for c in bits[to + 1:] if not (a | b) & c]


class On(Case):
    def test_against_trying_each(self):
        for stock in STOCKS:
            for length in (3, 4, 5, 6):
                for height in (1, 2, 3):
                    for courses in slow_walls(stock, length, height)[:40]:
                        self.check(stock, length, courses)

    def check(self, stock, length, courses):
        wall = Wall(stock, courses)
        # Whoever can lay three more courses can lay them for ever, since they stand in a lot.
        ons = [slow_walls(stock, length, more, courses) for more in (1, 2, 3)]
        if ons[2]:
            self.assertIs(most_on(wall), None)
            self.same_tuple(goes_on(wall), min(row[len(courses)] for row in ons[2]))
        else:
            most = max([more for more in (1, 2) if ons[more - 1]], default=0)
            self.assertIs(type(most_on(wall)), int)
            self.assertEqual(most_on(wall), most)
            self.assertIs(goes_on(wall), None)

    def test_by_lots(self):
        """For ever exactly if the courses of the top stand together in some lot."""
        for stock in STOCKS:
            for length in (4, 6, 7):
                lots = slow_lots(stock, length, stock.reach + 1)
                for height in (1, 2):
                    for courses in slow_walls(stock, length, height):
                        top = sorted(courses[-stock.reach:])
                        self.assertIs(most_on(Wall(stock, courses)) is None, any(held(top, lot) for lot in lots))

    def test_one_more_and_then_none(self):
        # Two of these courses are apart, but no three: the reach binds the third one.
        wall = Wall(Stock((2, 3), 1, 2), [(2, 3)])
        self.assertEqual(most_on(wall), 1)
        self.assertIs(goes_on(wall), None)
        self.assertEqual(most_on(Wall(Stock((2, 3), 1, 2), [(2, 3), (3, 2)])), 0)
        self.assertEqual(most_on(Wall(Stock((2, 3), 1, 2), [(2, 2)])), 0)

    def test_not_the_first_course_that_is_apart(self):
        # (2, 1, 1) is apart from (1, 3), but stands in no lot of three with it.
        stock = Stock((1, 2, 3), 1, 2)
        wall = Wall(stock, [(1, 3)])
        self.assertEqual([rows[1] for rows in slow_walls(stock, 4, 1, wall.courses)], [(2, 1, 1), (2, 2), (3, 1)])
        self.assertEqual(goes_on(wall), (2, 2))

    def test_one_brick(self):
        wall = Wall(Stock((4,), 4, 2), [(4,)])
        self.assertIs(most_on(wall), None)
        self.assertEqual(goes_on(wall), (4,))

    def test_high_walls(self):
        stock = Stock((2, 3))
        self.assertIs(most_on(Wall(stock, [(2, 2, 3), (3, 2, 2)] * 30)), None)
        self.assertEqual(goes_on(Wall(stock, [(2, 2, 3), (3, 2, 2)] * 30)), (2, 2, 3))

    def test_length_12_and_13(self):
        stock = Stock((1, 2, 3, 4), 1, 2)
        laid = round_for(stock, 12)
        wall = Wall(stock, laid.courses)
        self.assertIs(most_on(wall), None)
        self.assertTrue(is_right(Wall(stock, [*laid.courses, goes_on(wall)])))
        self.assertIs(most_on(Wall(stock, laid.courses[:1])), None)
        for call in (most_on, goes_on):
            self.refused("BadLength", {}, call, Wall(Stock((2, 3)), [(2, 2, 3, 3, 3)]))
            self.refused("BadLength", {}, call, Wall(Stock((2, 3)), [(2, 2, 3, 3, 3)] * 2))
            self.refused("NotRight", {}, call, Wall(Stock((2, 3)), [(2, 2, 2, 3, 3)] * 2))

    def test_not_right_anywhere(self):
        for call in (most_on, goes_on):
            self.refused("NotRight", {}, call, Wall(Stock((2, 3)), [(2, 3), (2, 3), (3, 2)]))

    def test_example(self):
        stock = Stock((2, 3))
        self.assertEqual([walls_counted(stock, 7, height) for height in range(1, 61)], [3] + [2] * 59)
        self.assertEqual(most_on(Wall(stock, [(2, 3, 2)])), 0)
        self.assertIs(goes_on(Wall(stock, [(2, 3, 2)])), None)
        self.assertIs(most_on(Wall(stock, [(2, 2, 3)])), None)
        self.assertEqual(goes_on(Wall(stock, [(2, 2, 3)])), (3, 2, 2))


def held(things, lot):
    """Whether the lot has each of the things, as often as they come."""
    left = list(lot)
    for thing in things:
        if thing not in left:
            return False
        left.remove(thing)
    return True
