"""[5.1] to [5.3]: ends, their stands, and how they go on."""

from itertools import product

from jointsapart.calendars import Calendar
from jointsapart.ends import check_end, end_calendar, end_of, goes_far, next_ends, stand_of_end
from jointsapart.lengths import length_calendar
from jointsapart.stands import first_stand
from jointsapart.stock import Stock
from tests.helper import NOT_SEQUENCES, NOT_WHOLE, Case, all_ends, slow_courses, slow_joints, slow_lots, slow_ways

STOCKS = [Stock((2, 3)), Stock((2, 3), 1, 2), Stock((1, 2, 4), 2, 2), Stock((1, 2), 4, 2), Stock((3, 5), 3, 1),
          Stock((4,), 2, 1), Stock((1,), 1, 2)]
TWO = Stock((2, 3))


def slow_fault(stock, end):
    """The word that is due for a tuple of couples, in the words of [5.1]."""
    couples = list(enumerate(end))
    for at, (age, fresh) in couples:
        for by, (far, young) in couples:
            if fresh and young and age != far or not fresh and young and age > far - min(stock.bricks):
                return "begun"
    for at, (age, fresh) in couples:
        for by, (far, young) in couples:
            if at != by and not fresh and not young and abs(age - far) < stock.lap:
                return "close"
    return None


class Check(Case):
    def test_against_the_words(self):
        for stock in STOCKS:
            couples = [(age, fresh) for age in range(stock.longest + 1) for fresh in (True, False)]
            for size in range(1, stock.reach + 2):
                for end in list(product(couples, repeat=size))[::1 if size < 3 else 3]:
                    due = slow_fault(stock, end)
                    if due is None:
                        self.same_tuple(check_end(stock, end), end)
                    else:
                        self.refused("BadEnd", {"what": due}, check_end, stock, end)

    def test_lists_become_tuples(self):
        end = [[1, True], (1, True)]
        checked = check_end(TWO, end)
        end[0][0] = 3
        end.pop()
        self.same_tuple(checked, ((1, True), (1, True)))

    def test_many(self):
        for stock in STOCKS:
            couple = (0, True)
            for size in range(1, stock.reach + 2):
                self.assertEqual(check_end(stock, (couple,) * size), first_stand(size))
            for end in ((), [], (couple,) * (stock.reach + 2), *NOT_SEQUENCES):
                self.refused("BadEnd", {"what": "many"}, check_end, stock, end)

    def test_couple(self):
        for age in (-1, 4, *NOT_WHOLE):
            self.refused("BadEnd", {"what": "couple"}, check_end, TWO, ((0, True), (age, True)))
        for fresh in (1, 0, None, "True", 1.0):
            self.refused("BadEnd", {"what": "couple"}, check_end, TWO, ((0, True), (0, fresh)))
        for couple in ((), (0,), (0, True, True), *NOT_SEQUENCES):
            self.refused("BadEnd", {"what": "couple"}, check_end, TWO, (couple, (0, True)))
        self.same_tuple(check_end(TWO, ((3, True), (0, False))), ((3, True), (0, False)))

    def test_begun_and_close(self):
        stock = Stock((2, 3), 2, 2)
        for what, end in (("begun", ((1, True), (2, True))), ("begun", ((2, True), (1, False))), (None, ((2, True), (0, False))),
                          (None, ((3, True), (1, False))), ("begun", ((3, True), (2, False))), ("begun", ((1, True), (0, False))),
                          ("close", ((0, False), (1, False))), ("close", ((0, False), (0, False))), (None, ((0, False), (2, False))),
                          ("close", ((1, False), (3, True), (0, False)))):
            if what is None:
                self.assertEqual(check_end(stock, end), end)
            else:
                self.refused("BadEnd", {"what": what}, check_end, stock, end)

    def test_two_words_at_once(self):
        stock = Stock((2, 3), 2, 2)
        for what, end in (("many", ((9, True),) * 4), ("couple", ((0, True), (1, True), (9, True))),
                          ("couple", ((1, False), (1, False), (0, 1))), ("begun", ((1, False), (1, False), (0, True)))):
            self.refused("BadEnd", {"what": what}, check_end, stock, end)

    def test_each_function_refuses(self):
        for function in (stand_of_end, next_ends, goes_far, end_calendar):
            self.refused("BadEnd", {"what": "many"}, function, TWO, ())
            self.refused("BadEnd", {"what": "couple"}, function, TWO, ((0, 1),))
            self.refused("BadEnd", {"what": "begun"}, function, TWO, ((0, True), (1, True)))
            self.refused("BadEnd", {"what": "close"}, function, TWO, ((0, False), (0, False)))


class Cut(Case):
    def test_against_the_joints(self):
        for stock in STOCKS:
            for size in range(1, stock.reach + 2):
                for length in range(1, 8):
                    for lot in slow_lots(stock, length, size)[:20]:
                        for units in range(length):
                            due = []
                            for course in lot[::-1]:
                                past = [joint for joint in slow_joints(course) if joint <= units]
                                due.append((units - max(past), False) if past else (units, True))
                            end = end_of(stock, [list(course) for course in lot[::-1]], units)
                            self.same_tuple(end, tuple(due))
                            self.assertEqual(check_end(stock, end), end)
                            self.same_tuple(stand_of_end(stock, end), tuple(sorted(end)))

    def test_examples(self):
        self.assertEqual(end_of(TWO, ((2, 3), (3, 2)), 2), ((0, False), (2, True)))
        self.assertEqual(end_of(TWO, ((2, 3), (3, 2)), 0), first_stand(2))
        self.assertIs(end_of(TWO, ((2, 3),), 0)[0][1], True)

    def test_refused_in_order(self):
        for courses in ((), ((2,),) * 3, *NOT_SEQUENCES):
            self.refused("BadCut", {"index": 0, "what": "many"}, end_of, TWO, courses, -1)
        for courses, index, what in (
                (((2, 2), (4,)), 1, "course"), ((5, (2,)), 0, "course"), (((2, 3), (2, True)), 1, "course"),
                (((2, 3), (2, 2)), 1, "length"), (((2, 3), (2, 3)), 1, "clash"), (((2, 2), (2, 3, 2)), 1, "length"),
                (((), (2,)), 0, "course")):
            self.refused("BadCut", {"index": index, "what": what}, end_of, TWO, courses, -1)
        stock = Stock((2, 3), 1, 2)
        self.refused("BadCut", {"index": 1, "what": "clash"}, end_of, stock, ((2, 3), (2, 3), (2,)), 0)
        self.refused("BadCut", {"index": 2, "what": "clash"}, end_of, stock, ((2, 3), (3, 2), (2, 3)), 0)
        for units in (5, -1, *NOT_WHOLE):
            self.refused("BadLength", {}, end_of, TWO, ((2, 3), (3, 2)), units)


class Onward(Case):
    def test_next_ends(self):
        for stock in STOCKS:
            for size in range(1, stock.reach + 2):
                for end in all_ends(stock, size)[::1 if size < 3 else 3]:
                    due = sorted(slow_ways(stock, end, 1))
                    self.same_tuple(next_ends(stock, [list(couple) for couple in end]), tuple(due))
                    for after in due:
                        self.assertEqual(check_end(stock, after), after)

    def test_calendar_against_plain_ways(self):
        for stock in STOCKS:
            for size in range(1, stock.reach + 2):
                for end in all_ends(stock, size)[::1 if size < 3 else 9]:
                    calendar = end_calendar(stock, end)
                    self.assertIs(type(calendar), Calendar)
                    crowd = {end}
                    for units in range(30):
                        due = any(all(age in stock.bricks for age, _ in last) for last in crowd)
                        self.assertIs(units in calendar, due)
                        crowd = {after for last in crowd for after in slow_ways(stock, last, 1)}
                    # No stand comes twice on a way of 30 units that does not go round, in these small stocks.
                    self.assertIs(goes_far(stock, end), bool(crowd))

    def test_calendar_of_the_beginning_is_that_of_the_lengths(self):
        for stock in STOCKS:
            for size in range(1, stock.reach + 2):
                calendar = end_calendar(stock, first_stand(size))
                self.assertEqual(calendar, length_calendar(stock, size=size))
                self.assertIs(10 ** 30 in calendar, 10 ** 30 in length_calendar(stock, size=size))

    def test_one_course_goes_far(self):
        self.assertIs(goes_far(TWO, ((3, False),)), False)
        self.assertIs(goes_far(TWO, ((2, False),)), True)
        self.assertIs(goes_far(Stock((1,)), first_stand(2)), False)
        self.assertEqual(end_calendar(TWO, ((3, False),)), Calendar(1, (0,), 1, ()))
        self.assertEqual(end_calendar(TWO, ((0, False),)), Calendar(2, (), 1, (0,)))

    def test_courses_cut_can_finish_so(self):
        """Who cuts courses can finish them as they were."""
        for stock in STOCKS[:3]:
            for course in slow_courses(stock.bricks, 7):
                for units in range(7):
                    self.assertIn(7 - units, end_calendar(stock, end_of(stock, (course,), units)))
