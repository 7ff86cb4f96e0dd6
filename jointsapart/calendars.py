"""Calendars: which whole numbers serve, some one by one and from some place on by rests."""

from math import lcm

from jointsapart.errors import BadCalendar
from jointsapart.ratios import is_sequence, is_whole
from jointsapart.repeating import check_far


class Calendar:
    """Below `before` the numbers in `lengths` serve, from there on those whose rest modulo `period` is in `rests`."""

    def __init__(self, before, lengths, period, rests):
        _check_parts(before, lengths, period, rests)
        least = _least_period(period, rests)
        kept = [rest for rest in rests if rest < least]
        self.before = _least_before(before, lengths, least, kept)
        self.lengths = tuple([length for length in lengths if length < self.before])
        self.period = least
        self.rests = tuple(kept)
        # To look a number up in a tuple would take as long as the tuple.
        self._early = {length: True for length in self.lengths}
        self._late = {rest: True for rest in kept}

    def __contains__(self, number):
        if not is_whole(number, 0):
            return False
        if number < self.before:
            return number in self._early
        return number % self.period in self._late

    def __eq__(self, other):
        return (isinstance(other, Calendar) and self.before == other.before and self.lengths == other.lengths
                and self.period == other.period and self.rests == other.rests)


def _check_parts(before, lengths, period, rests):
    if not is_whole(before, 0, 20000):
        raise BadCalendar("before")
    if not _are_numbers(lengths, before):
        raise BadCalendar("lengths")
    if not is_whole(period, 1, 5000):
        raise BadCalendar("period")
    if not _are_numbers(rests, period):
        raise BadCalendar("rests")


def _are_numbers(things, many):
    """Tell whether these are ascending whole numbers from 0 to many - 1, none twice."""
    if not is_sequence(things, 0, many) or not all([is_whole(thing, 0, many - 1) for thing in things]):
        return False
    return all([lesser < greater for lesser, greater in zip(things, things[1:])])


def _least_period(period, rests):
    """Return the least period of the numbers with these rests; it divides every other one."""
    serves_so = {rest: True for rest in rests}
    for lesser in range(1, period):
        if period % lesser == 0 and all([(rest + lesser) % period in serves_so for rest in rests]):
            return lesser
    return period


def _least_before(before, lengths, period, rests):
    """Return the least number from which on the rests alone tell what serves."""
    early = {length: True for length in lengths}
    late = {rest: True for rest in rests}
    while before > 0 and (before - 1 in early) == ((before - 1) % period in late):
        before -= 1
    return before


def _calendar_of(served, before, period):
    """Return the calendar in which these ascending numbers, all below before + period, serve."""
    lengths = [number for number in served if number < before]
    return Calendar(before, lengths, period, sorted([number % period for number in served if number >= before]))


def calendar_from(answers, back):
    """Return the calendar of these answers for 0, 1, .., which go on from index `back` behind the last one."""
    if not is_sequence(answers, 1, 20000) or not all([isinstance(answer, bool) for answer in answers]):
        raise BadCalendar("answers")
    many = len(answers)
    if not is_whole(back, max(0, many - 5000), many - 1):
        raise BadCalendar("back")
    return _calendar_of([number for number, answer in enumerate(answers) if answer], back, many - back)


def serves(calendar, length):
    """Tell whether the number serves."""
    check_far(length)
    return length in calendar


def first_served(calendar, length):
    """Return the least number from `length` on that serves, or None."""
    check_far(length)
    for served in calendar.lengths:
        if served >= length:
            return served
    start = max(length, calendar.before)
    return min([start + (rest - start) % calendar.period for rest in calendar.rests], default=None)


def count_served(calendar, length):
    """Return how many of the numbers 0 to `length`, both counted, serve."""
    check_far(length)
    early = len([served for served in calendar.lengths if served <= length])
    if length < calendar.before:
        return early
    return early + _many_by_rests(calendar, length + 1) - _many_by_rests(calendar, calendar.before)


def _many_by_rests(calendar, many):
    """Return how many of the numbers below `many` have a rest that serves."""
    whole, left = divmod(many, calendar.period)
    return whole * len(calendar.rests) + len([rest for rest in calendar.rests if rest < left])


def joined_calendars(one, other):
    """Return the calendar of the numbers that serve in one or both."""
    period = _common_period(one, other)
    before = max(one.before, other.before)
    return _calendar_of([number for number in range(before + period) if number in one or number in other],
                        before, period)


def common_calendar(one, other):
    """Return the calendar of the numbers that serve in both."""
    period = _common_period(one, other)
    before = max(one.before, other.before)
    return _calendar_of([number for number in range(before + period) if number in one and number in other],
                        before, period)


def _common_period(one, other):
    period = lcm(one.period, other.period)
    if period > 5000:
        raise BadCalendar("period")
    return period


def opposite_calendar(calendar):
    """Return the calendar of the numbers that do not serve."""
    many = calendar.before + calendar.period
    return _calendar_of([number for number in range(many) if number not in calendar],
                        calendar.before, calendar.period)


def first_difference(one, other):
    """Return the least number that serves in exactly one of the two, or None."""
    # Two rows with periods p and q that agree on p + q numbers side by side agree for ever.
    many = max(one.before, other.before) + one.period + other.period
    for number in range(many):
        if (number in one) != (number in other):
            return number
    return None
