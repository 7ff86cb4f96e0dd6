"""Spirals: one row of bricks that climbs round a well, laid again and again."""

from jointsapart.calendars import calendar_from
from jointsapart.course import check_course, check_length, joints_of, length_of
from jointsapart.errors import BadCourse, NoNumber
from jointsapart.ratios import is_whole


class Spiral:
    """The girth of a well and the bricks of a row that climbs round it, laid again and again."""

    def __init__(self, girth, bricks):
        self.girth = girth
        self.bricks = bricks


class Longest:
    """The girth of a well and the bricks of a longest row that can be laid round it."""

    def __init__(self, girth, bricks):
        self.girth = girth
        self.bricks = bricks


def _barred_sums(stock, girth):
    """Return the bits of the sums from 1 on that no run may have."""
    sums = {turn * girth + by: True for turn in range(1, stock.reach + 1) for by in range(1 - stock.lap, stock.lap)}
    return sum([1 << total for total in sums if total > 0])


def _first_barred(stock, girth, row):
    """Return (first, many) of the first run of the row, laid again and again, that has a barred sum, or None."""
    barred = _barred_sums(stock, girth)
    most = stock.reach * girth + stock.lap - 1
    for first in range(len(row)):
        total = 0
        many = 0
        while total < most:
            total += row[(first + many) % len(row)]
            many += 1
            if barred >> total & 1:
                return (first, many)
    return None


def spiral_clash(stock, girth, bricks):
    """Return the first run that makes this no right spiral, as (first brick, number of bricks), or None."""
    check_length(girth, 400)
    row = check_course(stock, bricks)
    for index, brick in enumerate(row):
        if brick > girth:
            raise BadCourse(index, "girth")
    return _first_barred(stock, girth, row)


def spiral_for(stock, girth):
    """Return a Spiral of as few bricks as possible, or the Longest row if there is none."""
    check_length(girth, 12)
    following = _following(stock, girth)
    sums = _greatest_sums(following)
    if 1 in sums:
        return Longest(girth, _row_of_greatest_sum(following, sums))
    rows = [((), 1)]
    while True:
        rows = [(row + (brick,), after) for row, state in rows for brick, after in following[state]]
        for row, _ in rows:
            if _first_barred(stock, girth, row) is None:
                return Spiral(girth, row)


def _following(stock, girth):
    """Return each state of a row that can be come to, with the (brick, state) that can follow.

    A state has the bits of the joints behind the last one, by their distance. Two neighbouring bricks that are
    as long as a third one are left out: this one does in their place, in a spiral and in a longest row.
    """
    barred = _barred_sums(stock, girth)
    bricks = [brick for brick in stock.bricks if brick <= girth]
    window = (1 << stock.reach * girth + stock.lap) - 1
    following = {}
    waiting = [1]
    while waiting:
        state = waiting.pop()
        if state not in following:
            last = _last_brick(state)
            following[state] = [(brick, (state << brick | 1) & window) for brick in bricks
                                if not state << brick & barred and last + brick not in bricks]
            waiting.extend([after for _, after in following[state]])
    return following


def _last_brick(state):
    """Return the distance of the two last joints, or a great one if there is one joint alone."""
    distance = 1
    while distance < 9 and not state >> distance & 1:
        distance += 1
    return distance


def _greatest_sums(following):
    """Return for each state from which no endless row goes on the greatest sum of bricks that can follow."""
    leading = {state: [] for state in following}
    for state in following:
        for _, after in following[state]:
            leading[after].append(state)
    left = {state: len(following[state]) for state in following}
    waiting = [state for state in following if left[state] == 0]
    sums = {}
    while waiting:
        state = waiting.pop()
        sums[state] = max([brick + sums[after] for brick, after in following[state]], default=0)
        for before in leading[state]:
            left[before] -= 1
            if left[before] == 0:
                waiting.append(before)
    return sums


def _row_of_greatest_sum(following, sums):
    """Return a row with the greatest sum from the first state on."""
    row = []
    state = 1
    while following[state]:
        brick, state = max([(brick + sums[after], brick, after) for brick, after in following[state]])[1:]
        row.append(brick)
    return tuple(row)


def spiral_calendar(stock, bricks):
    """Return the calendar of all girths, from the longest of these bricks on, round which they make a right spiral."""
    row = check_course(stock, bricks)
    length = length_of(row)
    places = (0, *joints_of(row))
    # The sums of runs are just the whole numbers from 1 on that have one of these rests.
    sums = {(place - other) % length: True for place in places for other in places}
    # Round a girth below the lap each brick is barred.
    before = max(*row, stock.lap)
    answers = [girth >= before and _is_right(stock, girth, sums, length) for girth in range(before + length)]
    return calendar_from(answers, before)


def _is_right(stock, girth, sums, length):
    """Tell whether no run has a barred sum, by the rests that the sums have."""
    return not any([(turn * girth + by) % length in sums
                    for turn in range(1, stock.reach + 1) for by in range(1 - stock.lap, stock.lap)])


def spiral_joints(spiral, number):
    """Return the ascending joints of a turn, counted from its first place."""
    if not is_whole(number, 0, 10 ** 30):
        raise NoNumber(number)
    length = length_of(spiral.bricks)
    places = {place: True for place in (0, *joints_of(spiral.bricks))}
    begin = number * spiral.girth
    return tuple([place for place in range(spiral.girth) if (begin + place) % length in places])
