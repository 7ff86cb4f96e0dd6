"""Ends: courses that are laid up to one line, and how they go on from there."""

from jointsapart.calendars import calendar_from
from jointsapart.course import joints_of, length_of, lot_flaw
from jointsapart.errors import BadCut, BadEnd, BadLength
from jointsapart.graphs import Graph
from jointsapart.ratios import is_sequence, is_whole
from jointsapart.repeating import ring_within
from jointsapart.stands import can_finish, next_stands, unit_steps


def check_end(stock, end):
    """Return the end as a tuple of couples, or raise BadEnd."""
    if not is_sequence(end, 1, stock.reach + 1):
        raise BadEnd("many")
    if not all([_is_couple_of(stock, couple) for couple in end]):
        raise BadEnd("couple")
    couples = tuple([tuple(couple) for couple in end])
    fresh_ages = [age for age, fresh in couples if fresh]
    other_ages = [age for age, fresh in couples if not fresh]
    if not _have_begun_so(stock, fresh_ages, other_ages):
        raise BadEnd("begun")
    ages = sorted(other_ages)
    if any([older - younger < stock.lap for younger, older in zip(ages, ages[1:])]):
        raise BadEnd("close")
    return couples


def _is_couple_of(stock, couple):
    if not is_sequence(couple, 2, 2):
        return False
    return is_whole(couple[0], 0, stock.longest) and isinstance(couple[1], bool)


def _have_begun_so(stock, fresh_ages, other_ages):
    """Tell whether the fresh courses have one age and the others a brick at least ahead of their last joints."""
    if not fresh_ages:
        return True
    begun = fresh_ages[0]
    return all([age == begun for age in fresh_ages]) and all([age <= begun - stock.bricks[0] for age in other_ages])


def end_of(stock, courses, units):
    """Return the end of the courses where they are cut at `units` from the left."""
    flaw = lot_flaw(stock, courses, 1, stock.reach + 1)
    if flaw is not None:
        raise BadCut(flaw[0], flaw[1])
    if not is_whole(units, 0, length_of(courses[0]) - 1):
        raise BadLength()
    return tuple([_couple_at(course, units) for course in courses])


def _couple_at(course, units):
    joints = [joint for joint in joints_of(course) if joint <= units]
    return (units - joints[-1], False) if joints else (units, True)


def stand_of_end(stock, end):
    """Return the couples of the end in ascending order."""
    return tuple(sorted(check_end(stock, end)))


def next_ends(stock, end):
    """Return the ascending ends that one more unit can lead to."""
    return ends_behind(stock, check_end(stock, end))


def ends_behind(stock, couples):
    """Return what next_ends does, for couples that need no check."""
    return tuple(sorted([after for _, after in unit_steps(stock, couples)]))


def graph_of_end(stock, end):
    """Return the graph of all stands that can come of the stand of the end."""
    return graph_of_stands(stock, [stand_of_end(stock, end)])


def graph_of_stands(stock, stands):
    """Return the graph of all stands that can come of these."""
    return Graph(stands, lambda stand: next_stands(stock, stand))


def finishing_ring(stock, graph):
    """Return the Repeating of the bits of the stands that can finish in just 0, 1, 2, .. units more."""
    first = graph.where(lambda stand: can_finish(stock, stand))
    return ring_within(first, lambda bits: graph.leading_to(bits))


def goes_far(stock, end):
    """Tell whether units can be laid on for ever from this end."""
    graph = graph_of_end(stock, end)
    return graph.lasting() & graph.firsts != 0


def end_calendar(stock, end):
    """Return the calendar of the numbers of units behind which this end can finish."""
    graph = graph_of_end(stock, end)
    ring = finishing_ring(stock, graph)
    return calendar_from([bits & graph.firsts != 0 for bits in ring.things], ring.back)
