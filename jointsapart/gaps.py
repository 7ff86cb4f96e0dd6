"""Gaps between two lines: the bricks that fill them, and the lengths that can be filled."""

from jointsapart.calendars import calendar_from
from jointsapart.course import joints_of
from jointsapart.ends import check_end, ends_behind
from jointsapart.errors import BadLength, UnlikeEnds
from jointsapart.graphs import Graph
from jointsapart.ratios import is_sequence, is_whole
from jointsapart.repeating import ring_within
from jointsapart.stands import rows_along


def _check_ends(stock, left, right):
    """Return both ends as tuples, or raise BadEnd or UnlikeEnds."""
    couples = check_end(stock, left)
    others = check_end(stock, right)
    if len(couples) != len(others):
        raise UnlikeEnds()
    return couples, others


def _check_gap(stock, left, right, length):
    couples, others = _check_ends(stock, left, right)
    if not is_whole(length, 0, 200):
        raise BadLength()
    return couples, others


def _meet(stock, couples, others):
    """Tell whether bricks fit between the last joints of the left and the first ones of the right at one line."""
    if not all([couple[0] + other[0] in stock.bricks for couple, other in zip(couples, others)]):
        return False
    return all([at == by or fresh or begun or age + far >= stock.lap
                for at, (age, fresh) in enumerate(couples) for by, (far, begun) in enumerate(others)])


def _older(couples):
    """Return the couples behind one unit in which no joint is laid."""
    return tuple([(age + 1, fresh) for age, fresh in couples])


def _graph_from(stock, couples):
    """Return the graph of all ends that can come of this one, their courses in order."""
    return Graph([couples], lambda end: ends_behind(stock, end))


def _closing(stock, graph, others):
    """Return the bits of the ends that meet the right end in one unit more; at the line itself no joint is laid."""
    return graph.where(lambda end: _meet(stock, _older(end), others))


def fill_gap(stock, left, right, length):
    """Return a row of whole bricks for each course of the gap, or None if it cannot be filled."""
    couples, others = _check_gap(stock, left, right, length)
    ends = _ends_through(stock, couples, others, length)
    return None if ends is None else rows_along(ends, [length + far for far, _ in others])


def _ends_through(stock, couples, others, length):
    """Return the ends from the left line on, as far as joints may lie, or None."""
    if length == 0:
        return [couples] if _meet(stock, couples, others) else None
    graph = _graph_from(stock, couples)
    leading = [_closing(stock, graph, others)]
    for _ in range(length - 1):
        leading.append(graph.leading_to(leading[-1]))
    number = graph.numbers[couples]
    if not leading.pop() >> number & 1:
        return None
    ends = [couples]
    for bits in leading[::-1]:
        number = [after for after in graph.steps[number] if bits >> after & 1][0]
        ends.append(graph.things[number])
    return ends


def gap_calendar(stock, left, right):
    """Return the calendar of the lengths of the gap that can be filled."""
    couples, others = _check_ends(stock, left, right)
    graph = _graph_from(stock, couples)
    ring = ring_within(_closing(stock, graph, others), lambda bits: graph.leading_to(bits))
    answers = [bits & graph.firsts != 0 for bits in ring.things]
    # The gap of length 0 stands ahead of the ring.
    return calendar_from([_meet(stock, couples, others), *answers], ring.back + 1)


def gap_fault(stock, left, right, length, filling):
    """Return the word that tells why this is no filling of the gap, or None."""
    couples, others = _check_gap(stock, left, right, length)
    if not is_sequence(filling, len(couples), len(couples)):
        return "many"
    if not all([_is_row(stock, row) for row in filling]):
        return "brick"
    ages = [age for age, _ in couples]
    if any([sum(row) != age + length + far for row, age, (far, _) in zip(filling, ages, others)]):
        return "length"
    joints = [[joint - age for joint in joints_of(row)] for row, age in zip(filling, ages)]
    if not all([0 < joint < length for places in joints for joint in places]):
        return "line"
    told = [_told_joints(couple, other, length) for couple, other in zip(couples, others)]
    every = [[*places, *known] for places, known in zip(joints, told)]
    return None if _are_kept_apart(stock, every) else "clash"


def _is_row(stock, row):
    if not isinstance(row, (list, tuple)) or not row:
        return False
    return all([is_whole(brick) and brick in stock.bricks for brick in row])


def _told_joints(couple, other, length):
    """Return the joints that the two ends tell of a course."""
    joints = [] if couple[1] else [-couple[0]]
    return joints if other[1] else [*joints, length + other[0]]


def _are_kept_apart(stock, joints):
    """Tell whether the joints of each course are at least the lap from those of each other one."""
    return all([abs(one - other) >= stock.lap for at, places in enumerate(joints)
                for others in joints[at + 1:] for one in places for other in others])
