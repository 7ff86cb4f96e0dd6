"""Bridges: the courses between two right walls that make one right wall of all."""

from jointsapart.course import check_length, course_flaw
from jointsapart.errors import NoNumber
from jointsapart.ratios import is_sequence, is_whole
from jointsapart.tables import Table, tops_of
from jointsapart.walls import check_right, clashes_of
from jointsapart.wallwork import check_alike


class NoBridge:
    """All tops to which the lower wall can be gone on with, none of which bears the upper one."""

    def __init__(self, tops):
        self.tops = tops

    def __eq__(self, other):
        return isinstance(other, NoBridge) and self.tops == other.tops


def _table_between(lower, upper):
    """Return the table of the courses of the two walls, or raise the error that is due."""
    check_alike(lower, upper)
    check_length(lower.length, 10)
    check_right(lower)
    check_right(upper)
    return Table(lower.stock, lower.length)


def bridge_fault(lower, upper, courses):
    """Return the word that tells why this is no bridge, or None."""
    _table_between(lower, upper)
    if not isinstance(courses, (list, tuple)):
        return "list"
    for course in courses:
        word = course_flaw(lower.stock, course, lower.length)
        if word is not None:
            return word
    stock = lower.stock
    together = [*lower.courses, *courses, *upper.courses]
    for _ in clashes_of(stock, together):
        return "clash"
    return None


def _bears(table, top, upper):
    """Tell whether these courses can lie directly below the upper wall."""
    bottoms = [table.places[table.numbers[course]] for course in upper.courses[:table.reach]]
    for depth, number in enumerate(top[::-1]):
        # The deeper a course lies, the fewer courses of the upper wall are within its reach.
        if any([table.bars[number] & joints for joints in bottoms[:table.reach - depth]]):
            return False
    return True


def _ways_to(table, upper):
    """Return for tops and rests the least number of courses with this rest that lead from the top to the wall.

    With a number of courses that leads there, the number that is reach + 1 greater does so too.
    """
    size = table.reach + 1
    ways = {}
    many = 0
    tops = [top for top in tops_of(table, table.reach) if _bears(table, top, upper)]
    while tops:
        fresh = [top for top in tops if (top, many % size) not in ways]
        for top in fresh:
            ways[(top, many % size)] = many
        many += 1
        belows = {(number,) + top[:-1]: True for top in fresh for number in table.apart_from(top)}
        tops = list(belows)
    return ways


def _leasts_from(table, ways, top):
    """Return for each rest the least number from 1 on of courses that lead from the top to the upper wall, or None."""
    size = table.reach + 1
    tops = [table.top_with(top, number) for number in table.apart_from(top)]
    leasts = []
    for rest in range(size):
        others = [(above, (rest - 1) % size) for above in tops]
        leasts.append(min([ways[other] + 1 for other in others if other in ways], default=None))
    return tuple(leasts)


def least_bridges(lower, upper):
    """Return for each rest modulo reach + 1 the least number from 1 on of courses of a bridge, or None."""
    table = _table_between(lower, upper)
    ways = _ways_to(table, upper)
    return _leasts_from(table, ways, table.top_of(lower.courses))


def bridges_over(lower, upper, number):
    """Tell whether there is a bridge of this number of courses."""
    table = _table_between(lower, upper)
    if not is_whole(number, 0, 10 ** 30):
        raise NoNumber(number)
    top = table.top_of(lower.courses)
    if number == 0:
        return _bears(table, top, upper)
    least = _leasts_from(table, _ways_to(table, upper), top)[number % (table.reach + 1)]
    return least is not None and least <= number


def bridge_of(lower, upper, number):
    """Return the first bridge of this number of courses, or None."""
    table = _table_between(lower, upper)
    if not is_whole(number, 0, 60):
        raise NoNumber(number)
    top = table.top_of(lower.courses)
    if number == 0:
        return () if _bears(table, top, upper) else None
    return _first_bridge(table, _ways_to(table, upper), top, number)


def _first_bridge(table, ways, top, number):
    """Return the first bridge of this number of courses, from 1 on, or None."""
    numbers = []
    for left in range(number - 1, -1, -1):
        following = _first_step(table, ways, top, left)
        if following is None:
            return None
        numbers.append(following)
        top = table.top_with(top, following)
    return table.told(numbers)


def _first_step(table, ways, top, left):
    """Return the first course behind which just `left` more lead to the upper wall, or None."""
    for number in table.apart_from(top):
        way = (table.top_with(top, number), left % (table.reach + 1))
        if way in ways and ways[way] <= left:
            return number
    return None


def shortest_bridge(lower, upper):
    """Return the first bridge among those of the fewest courses, or NoBridge."""
    table = _table_between(lower, upper)
    top = table.top_of(lower.courses)
    if _bears(table, top, upper):
        return ()
    ways = _ways_to(table, upper)
    leasts = [least for least in _leasts_from(table, ways, top) if least is not None]
    if leasts:
        return _first_bridge(table, ways, top, min(leasts))
    return NoBridge(tuple([table.told(reached) for reached in _tops_from(table, top)]))


def _tops_from(table, top):
    """Return all tops to which a wall with this top can be gone on with, its own too, in ascending order."""
    reached = {top: True}
    waiting = [top]
    while waiting:
        last = waiting.pop()
        for above in [table.top_with(last, number) for number in table.apart_from(last)]:
            if above not in reached:
                reached[above] = True
                waiting.append(above)
    return sorted(list(reached))


def nobridge_fault(lower, upper, tops):
    """Return the word that tells why these tops do not show that there is no bridge, or None."""
    table = _table_between(lower, upper)
    if not isinstance(tops, (list, tuple)) or not all([_is_entry(lower, entry) for entry in tops]):
        return "entry"
    entries = {table.top_of([tuple(course) for course in entry]): True for entry in tops}
    if table.top_of(lower.courses) not in entries:
        return "first"
    for entry in entries:
        if not all([table.top_with(entry, number) in entries for number in table.apart_from(entry)]):
            return "closed"
    if any([_bears(table, entry, upper) for entry in entries]):
        return "bears"
    return None


def _is_entry(wall, entry):
    if not is_sequence(entry, 1, wall.stock.reach):
        return False
    return all([course_flaw(wall.stock, course, wall.length) is None for course in entry])
