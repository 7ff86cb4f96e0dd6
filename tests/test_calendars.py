"""[4.3] to [4.7]: calendars."""

from itertools import product
from math import lcm

from jointsapart.calendars import (Calendar, calendar_from, common_calendar, count_served, first_difference,
                                   first_served, joined_calendars, opposite_calendar, serves)
from tests.helper import NOT_SEQUENCES, NOT_WHOLE, Case

FAR = 10 ** 30


def form(calendar):
    return (calendar.before, calendar.lengths, calendar.period, calendar.rests)


def small_calendars(before, period):
    """All calendars told with this before and period."""
    for early in product((False, True), repeat=before):
        for late in product((False, True), repeat=period):
            yield (before, [at for at, served in enumerate(early) if served],
                   period, [at for at, served in enumerate(late) if served])


def serves_slow(told, number):
    before, lengths, period, rests = told
    return number in lengths if number < before else number % period in rests


def slow_form(told):
    """The plain form, by trying every period and every before."""
    before, _, period, _ = told
    row = [serves_slow(told, number) for number in range(before + 5 * period)]
    for least in range(1, period + 1):
        if all(row[at] == row[at + least] for at in range(before, before + 4 * period)):
            break
    start = min(at for at in range(before + 1)
                if all(row[to] == row[to + least] for to in range(at, len(row) - least)))
    return (start, tuple(at for at in range(start) if row[at]), least,
            tuple(sorted(at % least for at in range(start, start + least) if row[at])))


class Made(Case):
    def test_plain_form_against_trying_each(self):
        for before in range(5):
            for period in (1, 2, 3, 4, 6):
                for told in small_calendars(before, period):
                    calendar = Calendar(*told)
                    self.same_tuple(form(calendar), slow_form(told))
                    numbers = range(before + 2 * period)
                    self.assertEqual([number in calendar for number in numbers],
                                     [serves_slow(told, number) for number in numbers])

    def test_greater_before_and_period(self):
        plain = Calendar(5, [2, 3], 1, (0,))
        self.assertEqual(form(plain), (5, (2, 3), 1, (0,)))
        told = Calendar(20000, [2, 3, *range(5, 20000)], 5000, list(range(5000)))
        self.assertEqual(form(told), form(plain))
        self.assertIs(told == plain, True)
        odd = Calendar(19999, tuple(range(1, 19999, 2)), 5000, tuple(range(1, 5000, 2)))
        self.assertEqual(form(odd), (0, (), 2, (1,)))

    def test_greatest_plain_form(self):
        told = (20000, (0, 7, 19999), 5000, (0, 4999))
        calendar = Calendar(20000, [0, 7, 19999], 5000, [0, 4999])
        # 19999 has the rest 4999, and 0 is in both ways a number that serves, but 5000 does not serve.
        self.assertEqual(form(calendar), (15001, (0, 7), 5000, (0, 4999)))
        self.assertEqual([number for number in (0, 7, 4999, 5000, 14999, 15000, 15001, 19999, 20000, 24999, 25000, 10 ** 40)
                          if number in calendar], [0, 7, 19999, 20000, 24999, 25000, 10 ** 40])
        self.assertEqual([number in calendar for number in range(26000)],
                         [serves_slow(told, number) for number in range(26000)])
        kept = Calendar(20000, [], 5000, [4999])
        self.assertEqual(form(kept), (20000, (), 5000, (4999,)))

    def test_none_serves(self):
        self.assertEqual(form(Calendar(0, (), 1, ())), (0, (), 1, ()))
        self.assertEqual(form(Calendar(9, [], 12, [])), (0, (), 1, ()))
        self.assertEqual(form(Calendar(9, [3, 5], 12, [])), (6, (3, 5), 1, ()))

    def test_all_serve(self):
        self.assertEqual(form(Calendar(3, [0, 1, 2], 2, [0, 1])), (0, (), 1, (0,)))

    def test_later_changes_have_no_effect(self):
        lengths, rests = [1], [0]
        calendar = Calendar(3, lengths, 2, rests)
        lengths.append(2)
        rests.append(1)
        self.assertEqual(form(calendar), (3, (1,), 2, (0,)))
        self.assertEqual([number in calendar for number in (1, 2, 3, 4, 5)], [True, False, False, True, False])

    def test_equality(self):
        calendar = Calendar(3, [1], 2, [0])
        self.assertIs(calendar == Calendar(5, [1, 4], 6, [0, 2, 4]), True)
        self.assertIs(calendar != Calendar(5, [1, 4], 6, [0, 2, 4]), False)
        for other in (Calendar(5, [1], 2, [0]), Calendar(4, [1, 3], 2, [0]), Calendar(3, [1], 2, [1]),
                      Calendar(3, [1], 4, [0]), Calendar(3, [1, 2], 2, [0]), (3, (1,), 2, (0,)), None):
            self.assertIs(calendar == other, False)
            self.assertIs(calendar != other, True)

    def test_equal_exactly_if_the_same_numbers_serve(self):
        calendars = [Calendar(*told) for before in (0, 2) for period in (1, 2, 4) for told in small_calendars(before, period)]
        for one in calendars:
            for other in calendars:
                self.assertIs(one == other, [n in one for n in range(10)] == [n in other for n in range(10)])

    def test_without_a_bound(self):
        calendar = Calendar(2, [0], 7, [3])
        self.assertIs(7 * 10 ** 900 + 3 in calendar, True)
        self.assertIs(7 * 10 ** 900 + 2 in calendar, False)
        self.assertIs(0 in calendar, True)
        self.assertIs(1 in calendar, False)

    def test_what_is_no_whole_number_from_0_on_does_not_serve(self):
        calendar = Calendar(0, [], 1, [0])
        for thing in (-1, -10 ** 30, *NOT_WHOLE):
            if not isinstance(thing, (list, dict)):
                self.assertIs(thing in calendar, False)

    def test_before(self):
        for before in (-1, 20001, *NOT_WHOLE):
            self.refused("BadCalendar", {"what": "before"}, Calendar, before, None, None, None)

    def test_lengths(self):
        for lengths in (*NOT_SEQUENCES, [5], [-1], [1, 1], [2, 1], [True], [0, True], ["1"], [None], [0, 1, 2, 3, 4, 5]):
            self.refused("BadCalendar", {"what": "lengths"}, Calendar, 5, lengths, None, None)
        self.refused("BadCalendar", {"what": "lengths"}, Calendar, 0, [0], None, None)
        self.assertEqual(Calendar(5, (0, 4), 1, ()).lengths, (0, 4))

    def test_period(self):
        for period in (0, 5001, -1, *NOT_WHOLE):
            self.refused("BadCalendar", {"what": "period"}, Calendar, 5, [1], period, None)

    def test_rests(self):
        for rests in (*NOT_SEQUENCES, [3], [-1], [1, 1], [2, 1], [True], [False], ["1"], [None], [0, 1, 2, 3]):
            self.refused("BadCalendar", {"what": "rests"}, Calendar, 5, [1], 3, rests)
        self.assertEqual(Calendar(0, (), 3, (0, 2)).rests, (0, 2))


class Answers(Case):
    def test_against_going_on(self):
        for many in range(1, 7):
            for answers in product((False, True), repeat=many):
                for back in range(many):
                    calendar = calendar_from(answers, back)
                    due = list(answers)
                    while len(due) < 40:
                        due += answers[back:]
                    self.assertEqual([number in calendar for number in range(40)], due[:40])
                    self.assertIs(type(calendar), Calendar)

    def test_many(self):
        answers = [False] * 20000
        answers[19999] = True
        calendar = calendar_from(answers, 15000)
        self.assertEqual(form(calendar), (15000, (), 5000, (4999,)))
        self.assertEqual(form(calendar_from(answers, 19999)), (19999, (), 1, (0,)))
        self.refused("BadCalendar", {"what": "back"}, calendar_from, answers, 14999)
        self.refused("BadCalendar", {"what": "back"}, calendar_from, answers, 0)
        self.assertEqual(form(calendar_from([False] * 4999 + [True], 0)), (0, (), 5000, (4999,)))

    def test_answers_refused(self):
        for answers in (*NOT_SEQUENCES, [], (), [True] * 20001, [1], [0], [True, 0], [True, None], ["True"]):
            self.refused("BadCalendar", {"what": "answers"}, calendar_from, answers, None)

    def test_back_refused(self):
        for back in (-1, 2, 3, *NOT_WHOLE):
            self.refused("BadCalendar", {"what": "back"}, calendar_from, (True, False), back)


class Asked(Case):
    CALENDARS = [Calendar(*told) for before in (0, 1, 4) for period in (1, 2, 3) for told in small_calendars(before, period)]

    def test_against_going_through(self):
        for calendar in self.CALENDARS:
            row = [number in calendar for number in range(30)]
            for length in range(15):
                self.assertIs(serves(calendar, length), row[length])
                due = next((number for number in range(length, 30) if row[number]), None)
                self.assertEqual(first_served(calendar, length), due)
                self.assertEqual(count_served(calendar, length), sum(row[:length + 1]))

    def test_far(self):
        calendar = Calendar(10, [2, 7], 7, [1, 3, 4])
        self.assertIs(serves(calendar, FAR), FAR % 7 in (1, 3, 4))
        for length in range(FAR - 9, FAR + 1):
            first = next(number for number in range(length, length + 7) if number % 7 in (1, 3, 4))
            self.assertEqual(first_served(calendar, length), first)
        self.assertIs(first_served(Calendar(10, [2, 7], 1, []), 8), None)
        self.assertIs(first_served(Calendar(10, [2, 7], 1, []), FAR), None)
        self.assertEqual(count_served(Calendar(10, [2, 7], 1, []), FAR), 2)
        self.assertEqual(count_served(Calendar(0, [], 1, [0]), FAR), FAR + 1)

    def test_counts_over_sevens(self):
        calendar = Calendar(10, [2, 7], 7, [1, 3, 4])
        for near in range(30, 37):
            far = near + 7 * 10 ** 28
            self.assertEqual(count_served(calendar, far),
                             sum(1 for number in range(near + 1) if number in calendar) + 3 * 10 ** 28)

    def test_refused(self):
        calendar = Calendar(5, [2, 3], 1, [0])
        for call in (serves, first_served, count_served):
            for length in (-1, FAR + 1, 10 ** 400, *NOT_WHOLE):
                self.refused("BadLength", {}, call, calendar, length)


class Two(Case):
    CALENDARS = [Calendar(*told) for before, period in ((0, 2), (3, 1), (1, 3), (2, 4))
                 for told in list(small_calendars(before, period))[::3]]

    def test_against_number_by_number(self):
        for one in self.CALENDARS:
            row = [number in one for number in range(40)]
            self.assertEqual([number in opposite_calendar(one) for number in range(40)], [not served for served in row])
            for other in self.CALENDARS:
                rows = list(zip(row, [number in other for number in range(40)]))
                self.assertEqual([number in joined_calendars(one, other) for number in range(40)],
                                 [a or b for a, b in rows])
                self.assertEqual([number in common_calendar(one, other) for number in range(40)],
                                 [a and b for a, b in rows])
                due = next((number for number, (a, b) in enumerate(rows) if a != b), None)
                self.assertEqual(first_difference(one, other), due)

    def test_kinds(self):
        one = Calendar(3, [1], 2, [0])
        for made in (joined_calendars(one, one), common_calendar(one, one), opposite_calendar(opposite_calendar(one))):
            self.assertIs(type(made), Calendar)
            self.assertEqual(made, one)

    def test_common_multiple_5000_and_above(self):
        one, other = Calendar(0, [], 625, [0]), Calendar(7, [], 8, [3])
        self.assertEqual(common_calendar(one, other).period, 5000)
        self.assertEqual(joined_calendars(one, other).period, 5000)
        three = Calendar(7, [], 3, [2])
        for call in (joined_calendars, common_calendar):
            self.refused("BadCalendar", {"what": "period"}, call, Calendar(0, [], 1667, [0]), three)
            self.refused("BadCalendar", {"what": "period"}, call, three, Calendar(0, [], 5000, [0]))
        self.assertEqual(common_calendar(Calendar(0, [], 1666, [0]), three).period, lcm(1666, 3))
        # The plain form's period counts, not the one that was told.
        self.assertEqual(common_calendar(Calendar(0, [], 4999, []), three), Calendar(0, [], 1, []))

    def test_great_before(self):
        one, other = Calendar(20000, [19998], 2, [0]), Calendar(3, [], 5000, [1])
        joined = joined_calendars(one, other)
        self.assertEqual([number for number in range(19990, 20004) if number in joined],
                         [19998, 20000, 20001, 20002])
        self.assertIs(15001 in joined, True)
        self.assertEqual(first_served(common_calendar(opposite_calendar(one), other), 15002), 20001)

    def test_difference_of_any_periods(self):
        one, other = Calendar(0, [], 5000, [0]), Calendar(0, [], 4999, [0])
        self.assertEqual(first_difference(one, other), 4999)
        # All but one rest serve: where the first one fails, the other does not.
        one = Calendar(20000, [], 5000, list(range(4999)))
        other = Calendar(20000, [], 4999, list(range(4998)))
        self.assertEqual(first_difference(one, other), 4999 * 5 - 1)
        self.assertIs(first_difference(one, Calendar(20000, [], 5000, list(range(4999)))), None)
        self.assertEqual(first_difference(Calendar(0, [], 1, []), Calendar(20000, [], 5000, [4999])), 24999)
        self.assertEqual(first_difference(Calendar(20000, [19999], 1, []), Calendar(0, [], 1, [])), 19999)

    def test_late_difference(self):
        for p, q in ((4, 6), (3, 5), (6, 9), (1, 7)):
            for one in small_calendars(0, p):
                for other in list(small_calendars(0, q))[::7]:
                    first, second = Calendar(*one), Calendar(*other)
                    due = next((n for n in range(2 * p * q) if (n in first) != (n in second)), None)
                    self.assertEqual(first_difference(first, second), due)
