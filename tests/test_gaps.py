"""[5.4] and [5.5]: gaps between two lines."""

from itertools import product

from jointsapart.calendars import Calendar
from jointsapart.ends import end_calendar
from jointsapart.gaps import fill_gap, gap_calendar, gap_fault
from jointsapart.stands import first_stand
from jointsapart.stock import Stock
from tests.helper import NOT_SEQUENCES, NOT_WHOLE, Case, all_ends, slow_courses

STOCKS = [Stock((2, 3)), Stock((1, 2), 2), Stock((2, 3), 1, 2), Stock((1, 4), 1, 2), Stock((3, 5), 3)]
TWO = Stock((2, 3))


def row_joints(row, age, fresh, far, young):
    """All joints of a course in a gap whose left line is place 0: the told ones and the new ones."""
    length = sum(row) - age - far
    joints = [sum(row[:many]) - age for many in range(1, len(row))]
    return ([] if fresh else [-age]) + joints + ([] if young else [length + far])


def slow_word(stock, left, right, length, filling):
    """The word for tuples of rows, in the words of [5.5]."""
    for row, (age, _), (far, _) in zip(filling, left, right):
        if sum(row) != age + length + far:
            return "length"
    for row, (age, _) in zip(filling, left):
        if any(not 0 < sum(row[:many]) - age < length for many in range(1, len(row))):
            return "line"
    joints = [row_joints(row, *one, *other) for row, one, other in zip(filling, left, right)]
    for at, places in enumerate(joints):
        for others in joints[at + 1:]:
            if any(abs(one - other) < stock.lap for one in places for other in others):
                return "clash"
    return None


def slow_fillings(stock, left, right, length):
    """All fillings, by trying each choice of rows."""
    rows = [slow_courses(stock.bricks, age + length + far) for (age, _), (far, _) in zip(left, right)]
    rows = [[row for row in many if row] for many in rows]
    return [filling for filling in product(*rows) if slow_word(stock, left, right, length, filling) is None]


def couples_of_ends(stock, size, step):
    ends = all_ends(stock, size)
    return [(left, right) for at, left in enumerate(ends) for right in ends[at % step::step]]


class Fill(Case):
    def test_against_all_fillings(self):
        for stock, size, step, longest in ((STOCKS[0], 1, 1, 9), (STOCKS[0], 2, 3, 6), (STOCKS[1], 2, 3, 6),
                                           (STOCKS[2], 3, 97, 5), (STOCKS[3], 2, 19, 6), (STOCKS[4], 2, 29, 7)):
            for left, right in couples_of_ends(stock, size, step):
                calendar = gap_calendar(stock, left, right)
                for length in range(longest):
                    due = slow_fillings(stock, left, right, length)
                    filling = fill_gap(stock, [list(couple) for couple in left], list(right), length)
                    self.assertIs(length in calendar, bool(due), (stock.bricks, left, right, length))
                    if due:
                        self.same_tuple(filling, filling)
                        self.assertIn(filling, due)
                        for other in due[:5]:
                            self.assertIs(gap_fault(stock, left, right, length, other), None)
                    else:
                        self.assertIs(filling, None)

    def test_far_lengths(self):
        for stock in STOCKS:
            ends = all_ends(stock, 2)
            for left, right in list(zip(ends, ends[::-1]))[::3]:
                calendar = gap_calendar(stock, left, right)
                for length in (40, 41, 150, 199, 200):
                    filling = fill_gap(stock, left, right, length)
                    self.assertIs(filling is not None, length in calendar)
                    if filling is not None:
                        self.assertIs(gap_fault(stock, left, right, length, filling), None)

    def test_exchanged(self):
        for stock in STOCKS:
            for left, right in couples_of_ends(stock, 2, 7):
                self.assertEqual(gap_calendar(stock, left, right), gap_calendar(stock, right, left))
            for left, right in couples_of_ends(stock, stock.reach + 1, 101)[::7]:
                calendar = gap_calendar(stock, left, right)
                self.assertEqual(calendar, gap_calendar(stock, right, left))
                for length in [length for length in range(12) if length in calendar]:
                    backwards = tuple(row[::-1] for row in fill_gap(stock, left, right, length))
                    self.assertIs(gap_fault(stock, right, left, length, backwards), None)

    def test_beginning_at_the_right(self):
        for stock in STOCKS:
            for size in range(1, stock.reach + 2):
                for left in all_ends(stock, size)[::1 if size < 3 else 7]:
                    calendar = gap_calendar(stock, left, first_stand(size))
                    self.assertIs(type(calendar), Calendar)
                    self.assertEqual(calendar, end_calendar(stock, left))

    def test_courses_keep_their_order(self):
        left = ((2, True), (0, False))
        right = ((0, False), (2, True))
        self.assertEqual(fill_gap(TWO, left, right, 4), ((3, 3), (3, 3)))
        self.assertEqual(fill_gap(TWO, left, right, 1), ((3,), (3,)))
        self.assertIs(fill_gap(TWO, left, right, 0), None)
        # Exchanged at the right line alone, the told joints of one course are a brick apart.
        self.assertEqual(fill_gap(TWO, left, right[::-1], 2), ((3, 3), (2,)))
        self.assertEqual(fill_gap(TWO, left[::-1], right, 2), ((2,), (3, 3)))
        self.assertEqual(fill_gap(TWO, left, right, 2), None)


class Edges(Case):
    def test_nothing_between(self):
        # A sum of 0 has no filling, whatever the age of the other course.
        self.assertIs(fill_gap(TWO, ((0, False),), ((0, False),), 0), None)
        self.assertIs(fill_gap(TWO, ((0, True),), ((0, True),), 0), None)
        self.assertEqual(fill_gap(TWO, ((1, False),), ((1, False),), 0), ((2,),))
        self.assertEqual(fill_gap(TWO, ((0, False),), ((2, True),), 0), ((2,),))
        self.assertEqual(gap_calendar(TWO, ((0, True),), ((0, True),)), Calendar(2, (), 1, (0,)))
        # The told joints of two courses at one line lie on one another.
        self.assertIs(fill_gap(TWO, ((0, False), (2, True)), ((2, True), (0, False)), 0), None)
        self.assertEqual(fill_gap(TWO, ((0, False), (2, True)), ((3, True), (1, False)), 0), ((3,), (3,)))
        self.assertEqual(gap_fault(TWO, ((0, False), (2, True)), ((2, True), (0, False)), 0, ((2,), (2,))), "clash")
        self.assertIs(gap_fault(Stock((2, 3), 2), ((0, False), (2, True)), ((3, True), (0, False)), 0, ((3,), (2,))), "clash")
        # Joints at a line itself are no new joints: nothing fits between lines that are 4 or 5 apart but bricks' ends.
        self.assertIs(fill_gap(TWO, ((2, True),), ((2, True),), 0), None)
        self.assertEqual(gap_fault(TWO, ((2, True),), ((2, True),), 0, ((2, 2),)), "line")

    def test_told_joints_against_new_ones(self):
        stock = Stock((2, 3), 2)
        left = ((0, False), (2, True))
        self.assertEqual(gap_fault(stock, left, ((0, True), (0, True)), 3, ((3,), (3, 2))), "clash")
        self.assertEqual(gap_fault(TWO, left, ((0, True), (0, True)), 3, ((3,), (3, 2))), None)
        right = ((3, True), (1, False))
        self.assertEqual(gap_fault(TWO, ((0, True), (0, True)), right, 1, ((2, 2), (2,))), "line")
        self.assertEqual(gap_fault(TWO, ((0, True), (0, True)), ((2, True), (0, False)), 3, ((2, 3), (3,))), None)
        self.assertEqual(gap_fault(stock, ((0, True), (0, True)), ((2, True), (0, False)), 3, ((2, 3), (3,))), "clash")

    def test_refused_in_order(self):
        end = ((0, True),)
        for function, more in ((fill_gap, (-1,)), (gap_calendar, ()), (gap_fault, (-1, None))):
            self.refused("BadEnd", {"what": "many"}, function, TWO, (), ((5, 1),), *more)
            self.refused("BadEnd", {"what": "couple"}, function, TWO, ((5, True),), (), *more)
            self.refused("BadEnd", {"what": "begun"}, function, TWO, end, ((0, True), (1, True)), *more)
            self.refused("BadEnd", {"what": "close"}, function, TWO, end, ((1, False), (1, False)), *more)
            self.refused("UnlikeEnds", {}, function, TWO, end, end * 2, *more)
            self.refused("UnlikeEnds", {}, function, TWO, end * 2, end, *more)
        for length in (-1, 201, *NOT_WHOLE):
            self.refused("BadLength", {}, fill_gap, TWO, end, end, length)
            self.refused("BadLength", {}, gap_fault, TWO, end, end, length, None)
        for length in (2, 200):
            self.assertEqual(sum(fill_gap(TWO, end, end, length)[0]), length)
            self.assertIs(gap_fault(TWO, end, end, length, [[2] * (length // 2)]), None)


class Fault(Case):
    LEFT = ((2, True), (0, False))
    RIGHT = ((0, False), (2, True))

    def check(self, word, filling, length=5):
        self.assertEqual(gap_fault(TWO, self.LEFT, self.RIGHT, length, filling), word)

    def test_right_things(self):
        self.check(None, ((3, 2, 2), (2, 2, 3)))
        self.check(None, [[3, 2, 2], [2, 2, 3]])
        self.check(None, ([3, 2, 2], (2, 2, 3)))
        for filling in (((3, 3, 2), (2, 3, 3)), ((3, 3, 2), (3, 2, 3)), ((3, 2, 3), (2, 3, 3))):
            self.check(None, filling, 6)

    def test_many(self):
        for filling in ((), ((2,),), ((3, 2, 2), (2, 2, 3), (2,)), *NOT_SEQUENCES):
            self.check("many", filling)

    def test_brick(self):
        for row in ((), [], (4,), (2, True), (2, "2"), (2.0, 2), (2, None), *NOT_SEQUENCES):
            self.check("brick", ((9, 9), row))
            self.check("brick", ((3, 2), row))
        stock = Stock((1, 2))
        self.assertEqual(gap_fault(stock, ((1, True),), ((0, True),), 0, ((True,),)), "brick")

    def test_length(self):
        self.check("length", ((3, 2, 2), (2, 3)))
        self.check("length", ((2, 2, 2), (2, 2, 3)))
        # For all rows before "line" is asked of the first.
        self.check("length", ((2, 3, 2), (2, 3)))

    def test_line(self):
        self.check("line", ((2, 3, 2), (2, 2, 3)))
        self.check("line", ((2, 2, 3), (2, 2, 3)))
        self.check("line", ((3, 2, 2), (3, 2, 2)))
        self.assertEqual(gap_fault(TWO, ((3, True),), ((3, True),), 1, ((2, 3, 2),)), "line")
        self.assertEqual(gap_fault(TWO, ((2, True),), ((3, True),), 0, ((2, 3),)), "line")
        # Ahead of the line, too.
        self.assertEqual(gap_fault(TWO, ((3, True),), ((0, True),), 2, ((2, 3),)), "line")
        self.assertEqual(gap_fault(TWO, ((0, True),), ((3, True),), 2, ((3, 2),)), "line")
        # For all rows before "clash" is asked of any.
        self.check("line", ((3, 2, 3), (3, 3, 2)), 6)

    def test_clash(self):
        stock = Stock((2, 3), 2)
        self.assertEqual(gap_fault(stock, self.LEFT, self.RIGHT, 5, ((3, 2, 2), (2, 2, 3))), "clash")
        self.check("clash", ((3, 2, 3), (3, 2, 3)), 6)
