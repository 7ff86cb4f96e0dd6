"""Plans: endless ways on which a notice does, or what shows that there is none."""

from jointsapart.ends import check_end, finishing_ring, graph_of_end, graph_of_stands, stand_of_end
from jointsapart.errors import BadLength
from jointsapart.notice import check_clock, phases_kept
from jointsapart.ratios import is_whole
from jointsapart.repeating import check_far
from jointsapart.stands import can_finish, couples_into, is_stand, rows_along


class Plan:
    """The stands of an endless way: `way` from moment 0 on, then `ring` again and again."""

    def __init__(self, way, ring):
        self.way = way
        self.ring = ring

    def __eq__(self, other):
        return isinstance(other, Plan) and self.way == other.way and self.ring == other.ring


class NoPlan:
    """Rows (phase, stand, bound) that show that every way fails within so many units."""

    def __init__(self, bounds):
        self.bounds = bounds

    def __eq__(self, other):
        return isinstance(other, NoPlan) and self.bounds == other.bounds


def notice_plan(stock, end, units, *, every=1, since=0):
    """Return a Plan if a notice of this many units does, otherwise a NoPlan."""
    graph = graph_of_end(stock, end)
    check_far(units)
    check_clock(every, since)
    calls = finishing_ring(stock, graph).at(units)
    kept = phases_kept(graph, calls, every, since)
    if kept[0] & graph.firsts:
        return _plan_within(graph, kept, since)
    return NoPlan(_bounds_of(graph, calls, every, since))


def _first_number(graph):
    """Return the number of the only first stand."""
    return graph.numbers[graph.told(graph.firsts)[0]]


def _phase_behind(phase, last, since):
    """Return the phase of the next moment."""
    return since if phase == last else phase + 1


def _plan_within(graph, kept, since):
    """Return the Plan of a way that stays within what is kept at each phase."""
    places = {}
    node = (0, _first_number(graph))
    while node not in places:
        places[node] = len(places)
        phase = _phase_behind(node[0], len(kept) - 1, since)
        node = (phase, [after for after in graph.steps[node[1]] if kept[phase] >> after & 1][0])
    stands = [graph.things[number] for _, number in places]
    return Plan(tuple(stands[:places[node]]), tuple(stands[places[node]:]))


def _bounds_of(graph, calls, every, since):
    """Return the ascending rows for all stands that ways come to before they fail; there is no endless way."""
    following = _nodes_before_failure(graph, calls, since + every - 1, since)
    leading = {node: [] for node in following}
    for node in following:
        for after in following[node]:
            leading[after].append(node)
    left = {node: len(following[node]) for node in following}
    ready = [node for node in following if left[node] == 0]
    rows = []
    bound = 0
    while ready:
        rows.extend([(phase, graph.things[number], bound) for phase, number in ready])
        ready = _nodes_told(leading, left, ready)
        bound += 1
    return tuple(sorted(rows))


def _nodes_told(leading, left, ready):
    """Return the nodes of which now all that follows is told; `left` counts what is not."""
    told = []
    for node in ready:
        for before in leading[node]:
            left[before] -= 1
            if left[before] == 0:
                told.append(before)
    return told


def _nodes_before_failure(graph, calls, last, since):
    """Return each (phase, number) that a way comes to before it fails, with those that can follow."""
    fails = {(since, number): True for number in range(len(graph.things)) if not calls >> number & 1}
    following = {}
    waiting = [node for node in [(0, _first_number(graph))] if node not in fails]
    while waiting:
        node = waiting.pop()
        if node not in following:
            phase = _phase_behind(node[0], last, since)
            following[node] = [(phase, after) for after in graph.steps[node[1]] if (phase, after) not in fails]
            waiting.extend(following[node])
    return following


def stand_at(plan, moment):
    """Return the stand of the plan at a moment."""
    check_far(moment)
    begun = len(plan.way)
    return plan.way[moment] if moment < begun else plan.ring[(moment - begun) % len(plan.ring)]


def plan_fault(stock, end, plan, units, *, every=1, since=0):
    """Return the word that tells why this is no plan for the notice, or None."""
    graph = graph_of_end(stock, end)
    check_far(units)
    check_clock(every, since)
    if not plan.ring or len(plan.ring) % every != 0:
        return "ring"
    stands = [*plan.way, *plan.ring, plan.ring[0]]
    # What only looks like a stand, as with 1 in the place of True, is none.
    numbers = [graph.numbers.get(stand) if is_stand(stand) else None for stand in stands]
    if numbers[0] != _first_number(graph):
        return "first"
    if any([before is None or after not in graph.steps[before] for before, after in zip(numbers, numbers[1:])]):
        return "unit"
    calls = finishing_ring(stock, graph).at(units)
    begun = max(since, len(plan.way))
    for moment in range(since, begun + len(plan.ring), every):
        if not calls >> graph.numbers[stand_at(plan, moment)] & 1:
            return "call"
    return None


def noplan_fault(stock, end, noplan, units, *, every=1, since=0):
    """Return the word that tells why this does not show that every way fails, or None."""
    first = stand_of_end(stock, end)
    check_far(units)
    check_clock(every, since)
    rows = [row for row in noplan.bounds if _is_row(row, since + every)]
    graph = graph_of_stands(stock, [first, *[row[1] for row in rows]])
    calls = finishing_ring(stock, graph).at(units)
    fails = {(since, stand): True for number, stand in enumerate(graph.things) if not calls >> number & 1}
    bounds = {(phase, stand): bound for phase, stand, bound in rows}
    if (0, first) not in fails and (0, first) not in bounds:
        return "first"
    if len(bounds) < len(rows):
        return "twice"
    if any([node in fails for node in bounds]):
        return "fails"
    for node in bounds:
        phase = _phase_behind(node[0], since + every - 1, since)
        for number in graph.steps[graph.numbers[node[1]]]:
            after = (phase, graph.things[number])
            if after not in fails and bounds.get(after, bounds[node]) >= bounds[node]:
                return "bound"
    return None


def _is_row(row, phases):
    """Tell whether this is a row (phase, stand, bound); what is none shows nothing."""
    if not isinstance(row, tuple) or len(row) != 3:
        return False
    return is_whole(row[0], 0, phases - 1) and is_stand(row[1]) and is_whole(row[2], 0)


def played_rows(stock, end, plan, moment, units):
    """Return the row of each course when the call comes at a moment of the plan, or None if it cannot be met."""
    couples = check_end(stock, end)
    if not is_whole(moment, 0, 200) or not is_whole(units, 0, 200 - moment):
        raise BadLength()
    crowds = [{stand_at(plan, number): True} for number in range(1, moment + 1)]
    crowds.extend(_finishing_crowds(stock, stand_at(plan, moment), units))
    ends = [couples]
    for crowd in crowds:
        couples = None if couples is None else couples_into(stock, couples, crowd)
        ends.append(couples)
    if couples is None or not can_finish(stock, couples):
        return None
    return rows_along(ends, [moment + units] * len(couples))


def _finishing_crowds(stock, stand, units):
    """Return the crowds through which a stand finishes in just `units` more: those behind 1, 2, .., `units` units."""
    graph = graph_of_stands(stock, [stand])
    finishing = [graph.where(lambda couples: can_finish(stock, couples))]
    for _ in range(units - 1):
        finishing.append(graph.leading_to(finishing[-1]))
    return [{crowd: True for crowd in graph.told(bits)} for bits in finishing[::-1]] if units > 0 else []
