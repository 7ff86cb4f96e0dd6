"""Notices: how many units ahead a mason must be told the end to be able to go on till then."""

from jointsapart.calendars import Calendar
from jointsapart.ends import finishing_ring, graph_of_end
from jointsapart.errors import BadClock
from jointsapart.ratios import is_whole
from jointsapart.repeating import Repeating, check_far, ring_within
from jointsapart.stands import can_finish


def check_clock(every, since):
    """Raise BadClock for what is no clock."""
    if not is_whole(every, 1, 6):
        raise BadClock("every")
    if not is_whole(since, 0, 60):
        raise BadClock("since")


def met_crowd(stock, end):
    """Return the crowd of all stands that can be come to from the end, its own among them."""
    return graph_of_end(stock, end).things


def finishing_crowd(stock, end, units):
    """Return the crowd of the stands of met_crowd that can finish in just `units` more."""
    graph = graph_of_end(stock, end)
    check_far(units)
    return graph.told(finishing_ring(stock, graph).at(units))


def phase_of(moment, *, every=1, since=0):
    """Return the phase of a moment: its own number up to the first call and its rest, then rests alone."""
    check_far(moment)
    check_clock(every, since)
    return moment if moment < since + every else since + (moment - since) % every


def phases_kept(graph, calls, every, since):
    """Return for each phase the bits of the stands from which a way stays within `calls` at each call.

    At the phase `since` the call can come, there and behind each `every` units again.
    """
    kept = calls
    rest = _phases_ahead(graph, kept, every)
    while rest[0] & kept != kept:
        kept = kept & rest[0]
        rest = _phases_ahead(graph, kept, every)
    return [*_phases_ahead(graph, kept, since), kept, *rest[1:]]


def _phases_ahead(graph, bits, many):
    """Return the bits of the stands that lead to one of these in `many` units, many - 1, .., 1."""
    ahead = []
    for _ in range(many):
        bits = graph.leading_to(bits)
        ahead.append(bits)
    return ahead[::-1]


def _does(graph, calls, every, since):
    """Tell whether some way from the first stand is within `calls` at each call."""
    return phases_kept(graph, calls, every, since)[0] & graph.firsts != 0


def notice_does(stock, end, units, *, every=1, since=0):
    """Tell whether a notice of this many units does."""
    graph = graph_of_end(stock, end)
    check_far(units)
    check_clock(every, since)
    return _does(graph, finishing_ring(stock, graph).at(units), every, since)


def least_notices(stock, end, *, every=1, since=0):
    """Return for each rest modulo `every` the least notice with this rest that does, or None."""
    graph = graph_of_end(stock, end)
    check_clock(every, since)
    ring = finishing_ring(stock, graph)
    doing = Repeating([_does(graph, calls, every, since) for calls in ring.things], ring.back)
    # Within so many notices each rest has met each place of the ring that it ever meets.
    far = len(ring.things) * (every + 1)
    return tuple([min([notice for notice in range(rest, far, every) if doing.at(notice)], default=None)
                  for rest in range(every)])


def notice_calendar(stock, end, *, every=1, since=0):
    """Return the calendar of all notices that do."""
    leasts = [least for least in least_notices(stock, end, every=every, since=since) if least is not None]
    before = max(leasts, default=0)
    served = [notice for notice in range(before)
              if any([notice >= least and (notice - least) % every == 0 for least in leasts])]
    return Calendar(before, served, every, sorted([least % every for least in leasts]))


def notice_steps(stock, end):
    """Return the stairs: couples (since, notice), each with the least notice that does from there on."""
    graph = graph_of_end(stock, end)
    ring = finishing_ring(stock, graph)
    staying = [phases_kept(graph, calls, 1, 0)[0] for calls in ring.things]
    crowds = ring_within(graph.firsts, lambda bits: graph.coming_of(bits)).things
    stairs = []
    for since, crowd in enumerate(crowds):
        doing = [notice for notice, kept in enumerate(staying) if kept & crowd]
        # Who waits longer for the call needs no more notice, so the staircase only falls.
        if doing and (not stairs or doing[0] < stairs[-1][1]):
            stairs.append((since, doing[0]))
    return tuple(stairs)


def least_wait(stock, end, *, every=1, since=0):
    """Return the least number of units within which the mason can finish at each call, or None."""
    graph = graph_of_end(stock, end)
    check_clock(every, since)
    calls = graph.where(lambda stand: can_finish(stock, stand))
    wait = 0
    while not _does(graph, calls, every, since):
        more = calls | graph.leading_to(calls)
        if more == calls:
            return None
        calls = more
        wait += 1
    return wait
