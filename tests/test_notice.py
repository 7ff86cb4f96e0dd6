"""[5.6] to [5.9], [5.11], [5.13]: notices, with calls at any moment and by a clock."""

from jointsapart.calendars import Calendar
from jointsapart.ends import end_calendar, goes_far
from jointsapart.notice import (finishing_crowd, least_notices, least_wait, met_crowd, notice_calendar, notice_does,
                                notice_steps, phase_of)
from jointsapart.stands import first_stand
from jointsapart.stock import Stock
from tests.helper import NOT_WHOLE, Case, all_ends, can_end, slow_ways

STOCKS = [Stock((2, 3)), Stock((1, 2), 2), Stock((2, 3), 1, 2), Stock((3, 5), 2), Stock((3,), 1), Stock((2, 4), 1)]
TWO = Stock((2, 3))
NOTHING = first_stand(2)


class Plain:
    """The stands that an end leads to, with plain sets."""

    def __init__(self, stock, end):
        self.first = tuple(sorted(end))
        self.after = {}
        waiting = [self.first]
        while waiting:
            stand = waiting.pop()
            if stand not in self.after:
                self.after[stand] = {tuple(sorted(after)) for after in slow_ways(stock, stand, 1)}
                waiting += self.after[stand]
        self.stock = stock

    def finishing(self, units):
        """Those that can finish in just so many units."""
        found = {stand for stand in self.after if can_end(self.stock, stand)}
        for _ in range(units):
            found = {stand for stand in self.after if self.after[stand] & found}
        return found

    def does(self, calls, every, since):
        """Whether a way is within `calls` at each call: the nodes (phase, stand) from which one can go on for ever."""
        last = since + every - 1
        nodes = {(phase, stand) for phase in range(last + 1) for stand in self.after if phase != since or stand in calls}
        many = None
        while many != len(nodes):
            many = len(nodes)
            nodes = {(phase, stand) for phase, stand in nodes
                     if any((since if phase == last else phase + 1, after) in nodes for after in self.after[stand])}
        return (0, self.first) in nodes


def some_ends():
    for stock in STOCKS:
        for size in range(1, stock.reach + 2):
            for end in all_ends(stock, size)[::5 if size < 3 else 31]:
                yield stock, end


class Crowds(Case):
    def test_met(self):
        for stock, end in some_ends():
            crowd = met_crowd(stock, [list(couple) for couple in end])
            self.same_tuple(crowd, tuple(sorted(Plain(stock, end).after)))
            self.assertIn(tuple(sorted(end)), crowd)

    def test_finishing(self):
        for stock, end in some_ends():
            plain = Plain(stock, end)
            for units in (0, 1, 2, 5, 20):
                self.same_tuple(finishing_crowd(stock, end, units), tuple(sorted(plain.finishing(units))))
            self.assertIs(tuple(sorted(end)) in finishing_crowd(stock, end, 10 ** 30), 10 ** 30 in end_calendar(stock, end))

    def test_refused_in_order(self):
        for function in (finishing_crowd, notice_does):
            self.refused("BadEnd", {"what": "many"}, function, TWO, (), -1)
            for units in (-1, 10 ** 30 + 1, *NOT_WHOLE):
                self.refused("BadLength", {}, function, TWO, NOTHING, units)
        self.refused("BadLength", {}, notice_does, TWO, NOTHING, -1, every=0)
        for function in (met_crowd, least_notices, notice_calendar, notice_steps, least_wait):
            self.refused("BadEnd", {"what": "close"}, function, TWO, ((0, False), (0, False)))
        for function in (least_notices, notice_calendar, least_wait):
            self.refused("BadEnd", {"what": "couple"}, function, TWO, ((0, 1),), every=0, since=-1)
            for every in (0, 7, *NOT_WHOLE):
                self.refused("BadClock", {"what": "every"}, function, TWO, NOTHING, every=every, since=-1)
            for since in (-1, 61, *NOT_WHOLE):
                self.refused("BadClock", {"what": "since"}, function, TWO, NOTHING, since=since)
        for since in (-1, 61, True):
            self.refused("BadClock", {"what": "since"}, notice_does, TWO, NOTHING, 5, since=since)
        for every in (0, 7, True):
            self.refused("BadClock", {"what": "every"}, notice_does, TWO, NOTHING, 5, every=every, since=61)


class Does(Case):
    def test_against_plain_ways(self):
        for stock, end in some_ends():
            plain = Plain(stock, end)
            for units in (0, 1, 2, 3, 5, 8):
                calls = plain.finishing(units)
                for every, since in ((1, 0), (1, 3), (2, 0), (3, 1), (6, 2)):
                    self.assertIs(notice_does(stock, end, units, every=every, since=since),
                                  plain.does(calls, every, since))

    def test_more_by_every_always_does(self):
        for stock, end in some_ends():
            for every, since in ((1, 0), (2, 0), (4, 7)):
                told = [notice_does(stock, end, units, every=every, since=since) for units in range(24)]
                for less, more in zip(told, told[every:]):
                    self.assertTrue(more or not less)

    def test_example(self):
        self.assertEqual([notice_does(TWO, NOTHING, units) for units in range(8)], [False] * 5 + [True] * 3)
        self.assertEqual([notice_does(TWO, NOTHING, units, every=2) for units in range(8)],
                         [False, False, False, True, False, True, True, True])
        self.assertEqual(least_notices(TWO, NOTHING), (5,))
        self.assertEqual(least_notices(TWO, NOTHING, every=2), (6, 3))
        self.assertEqual(notice_steps(TWO, NOTHING), ((0, 5), (1, 4), (2, 3), (3, 2)))
        self.assertEqual((least_wait(TWO, NOTHING), least_wait(TWO, NOTHING, since=3)), (3, 2))

    def test_far_notices(self):
        for stock, end in some_ends():
            for every, since in ((1, 60), (6, 60)):
                for units in (10 ** 30, 10 ** 30 - 1):
                    self.assertIs(notice_does(stock, end, units, every=every, since=since),
                                  units in notice_calendar(stock, end, every=every, since=since))


class Least(Case):
    def test_least_notices(self):
        for stock, end in some_ends():
            for every, since in ((1, 0), (2, 0), (3, 2), (6, 60)):
                leasts = least_notices(stock, end, every=every, since=since)
                self.assertIs(type(leasts), tuple)
                self.assertEqual(len(leasts), every)
                calendar = notice_calendar(stock, end, every=every, since=since)
                self.assertIs(type(calendar), Calendar)
                told = [notice_does(stock, end, units, every=every, since=since) for units in range(40)]
                self.assertEqual([units in calendar for units in range(40)], told)
                for rest, least in enumerate(leasts):
                    due = [units for units in range(rest, 40, every) if told[units]]
                    self.assertEqual(least, due[0] if due else None)

    def test_none_does(self):
        # Two courses of one brick cannot go on side by side.
        self.assertEqual(least_notices(Stock((1,)), NOTHING), (None,))
        self.assertEqual(least_notices(Stock((1,)), NOTHING, every=3, since=60), (None,) * 3)
        self.assertEqual(notice_calendar(Stock((1,)), NOTHING), Calendar(0, (), 1, ()))
        self.assertEqual(notice_steps(Stock((1,)), NOTHING), ())
        self.assertIs(least_wait(Stock((1,)), NOTHING), None)

    def test_call_by_rests_alone(self):
        # One course of bricks of 3 can be ended at every third place alone.
        three = Stock((3,))
        self.assertEqual(least_notices(three, ((0, True),)), (None,))
        self.assertEqual(least_notices(three, ((0, True),), every=3), (3, None, None))
        self.assertEqual(least_notices(three, ((1, True),), every=6, since=1), (None, 1, None, None, 4, None))
        self.assertEqual(notice_calendar(three, ((0, True),), every=3), Calendar(1, (), 3, (0,)))

    def test_clock_at_its_edges(self):
        for every in (1, 6):
            for since in (0, 60):
                plain = Plain(TWO, NOTHING)
                due = [plain.does(plain.finishing(units), every, since) for units in range(12)]
                self.assertEqual([notice_does(TWO, NOTHING, units, every=every, since=since) for units in range(12)], due)


class Stairs(Case):
    def test_against_each_clock(self):
        for stock, end in some_ends():
            stairs = notice_steps(stock, end)
            self.same_tuple(stairs, stairs)
            self.assertEqual(list(stairs), sorted(stairs, key=lambda couple: (couple[0], -couple[1])))
            self.assertEqual(len({since for since, _ in stairs}), len(stairs))
            self.assertEqual(len({notice for _, notice in stairs}), len(stairs))
            for since in (0, 1, 2, 3, 4, 5, 7, 11, 19, 60):
                due = min([notice for first, notice in stairs if first <= since], default=None)
                self.assertEqual(least_notices(stock, end, since=since), (due,))

    def test_beyond_since_60(self):
        end = ((3, False), (6, False))
        stock = Stock((3, 4, 8), 2)
        plain = Plain(stock, end)
        self.assertEqual(notice_steps(stock, end), tuple((since, 26 - since) for since in range(11)))
        for since in (4, 10, 61, 90):
            self.assertIs(plain.does(plain.finishing(max(16, 26 - since)), 1, since), True)
            self.assertIs(plain.does(plain.finishing(max(16, 26 - since) - 1), 1, since), False)


class Wait(Case):
    def test_against_plain_ways(self):
        for stock, end in some_ends():
            plain = Plain(stock, end)
            for every, since in ((1, 0), (1, 4), (2, 0), (3, 1), (6, 9)):
                due = None
                calls = set()
                for wait in range(12):
                    calls |= plain.finishing(wait)
                    if plain.does(calls, every, since):
                        due = wait
                        break
                self.assertEqual(least_wait(stock, end, every=every, since=since), due)

    def test_clock_by_default(self):
        """Calls at any moment from the beginning."""
        four = Stock((1, 4))
        self.assertEqual((least_wait(four, NOTHING), least_wait(four, NOTHING, every=2)), (3, 2))
        self.assertEqual(least_wait(four, NOTHING, every=1, since=0), 3)
        five = Stock((1, 5))
        self.assertEqual((least_wait(five, ((3, False),)), least_wait(five, ((3, False),), since=1)), (2, 1))
        self.assertEqual(notice_calendar(TWO, NOTHING), Calendar(5, (), 1, (0,)))
        self.assertEqual(notice_calendar(TWO, NOTHING, every=2), Calendar(5, (3,), 1, (0,)))

    def test_who_goes_far_waits(self):
        for stock, end in some_ends():
            plain = Plain(stock, end)
            if not goes_far(stock, end):
                self.assertIs(least_wait(stock, end, every=6, since=60), None)
            elif goes_far(stock, end) and end_calendar(stock, end) == Calendar(0, (), 1, (0,)):
                self.assertEqual(plain.does(plain.finishing(0), 1, 0), least_wait(stock, end) == 0)


class Phases(Case):
    def test_phases(self):
        for every in range(1, 7):
            for since in (0, 1, 5, 60):
                for moment in range(90):
                    due = moment
                    while due >= since + every:
                        due -= every
                    self.assertEqual(phase_of(moment, every=every, since=since), due)
                self.assertEqual(phase_of(10 ** 30, every=every, since=since), since + (10 ** 30 - since) % every)
        self.assertEqual((phase_of(0), phase_of(7)), (0, 0))

    def test_refused_in_order(self):
        for moment in (-1, 10 ** 30 + 1, *NOT_WHOLE):
            self.refused("BadLength", {}, phase_of, moment, every=0, since=-1)
        for every in (0, 7, *NOT_WHOLE):
            self.refused("BadClock", {"what": "every"}, phase_of, 0, every=every, since=-1)
        for since in (-1, 61, *NOT_WHOLE):
            self.refused("BadClock", {"what": "since"}, phase_of, 0, since=since)
