"""Nets: the least mean cost of a ring, and the numbers that show that no ring has a lesser one."""

from jointsapart.ratios import as_tuples, greatest_of, is_ratio, is_sequence, is_whole, least_of, make_ratio


class Rate:
    """The least mean cost of a ring of a net, such a ring, and a number for each node."""

    def __init__(self, ratio, ring, numbers):
        self.ratio = as_tuples(ratio)
        self.ring = as_tuples(ring)
        self.numbers = as_tuples(numbers)

    def __eq__(self, other):
        return (isinstance(other, Rate) and self.ratio == other.ratio and self.ring == other.ring
                and self.numbers == other.numbers)


def least_mean(many, edges):
    """Return the Rate of the net, or None if it has no ring."""
    ratio = _least_ratio(_least_walks(many, edges))
    if ratio is None:
        return None
    numbers = _numbers_for(many, edges, ratio)
    # A ring has the least mean exactly if none of its edges leaves anything over.
    tight = [(index, start, end) for index, (start, end, cost) in enumerate(edges)
             if numbers[end] == numbers[start] + _cost_above(cost, ratio)]
    return Rate(ratio, _ring_among(tight), numbers)


def _least_walks(many, edges):
    """Return for 0 to `many` steps the least cost of a walk of so many edges to each node, None where there is none."""
    walks = [[0] * many]
    for _ in range(many):
        costs = [None] * many
        for start, end, cost in edges:
            way = None if walks[-1][start] is None else walks[-1][start] + cost
            if way is not None and (costs[end] is None or way < costs[end]):
                costs[end] = way
        walks.append(costs)
    return walks


def _least_ratio(walks):
    """Return the least mean cost of a ring, by Karp's theorem, or None if there is none."""
    many = len(walks) - 1
    ratios = []
    for node, cost in enumerate(walks[many]):
        if cost is not None:
            ratios.append(greatest_of([make_ratio(cost - walks[steps][node], many - steps)
                                       for steps in range(many) if walks[steps][node] is not None]))
    return least_of(ratios) if ratios else None


def _cost_above(cost, ratio):
    """Return by how much a cost is above the ratio, in parts of its bottom."""
    return cost * ratio[1] - ratio[0]


def _numbers_for(many, edges, ratio):
    """Return for each node the least cost above the ratio of a walk that ends there."""
    numbers = [0] * many
    changed = True
    while changed:
        changed = False
        for start, end, cost in edges:
            way = numbers[start] + _cost_above(cost, ratio)
            if way < numbers[end]:
                numbers[end] = way
                changed = True
    return numbers


def _ring_among(edges):
    """Return the indices of a ring of rows (index, start, end), among which there is one."""
    following = _edges_on(edges)
    node = min(list(following))
    places = {}
    ring = []
    while node not in places:
        places[node] = len(ring)
        index, node = following[node]
        ring.append(index)
    return ring[places[node]:]


def _edges_on(edges):
    """Return for each node from which one can go on for ever the (index, end) of an edge that does so."""
    left = edges
    many = None
    while many != len(left):
        many = len(left)
        starts = {edge[1]: True for edge in left}
        left = [edge for edge in left if edge[2] in starts]
    return {start: (index, end) for index, start, end in left}


def net_fault(many, edges, rate):
    """Return the word that tells what is wrong with a Rate of the net, or None."""
    if not _is_ring(edges, rate.ring):
        return "ring"
    mean = make_ratio(sum([edges[index][2] for index in rate.ring]), len(rate.ring))
    if not is_ratio(rate.ratio) or rate.ratio != mean:
        return "ratio"
    numbers = rate.numbers
    if not is_sequence(numbers, many, many) or not all([is_whole(number) for number in numbers]):
        return "numbers"
    for start, end, cost in edges:
        if numbers[end] > numbers[start] + _cost_above(cost, rate.ratio):
            return "edge"
    return None


def _is_ring(edges, ring):
    if not isinstance(ring, (list, tuple)) or not ring:
        return False
    if not all([is_whole(index, 0, len(edges) - 1) for index in ring]):
        return False
    # The edge ahead of the first one is the last one.
    return all([edges[ring[at - 1]][1] == edges[ring[at]][0] for at in range(len(ring))])
