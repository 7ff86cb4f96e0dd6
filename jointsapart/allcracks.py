"""All cracks within a bound, one after the other, and how many are the cheapest."""

from jointsapart.cracks import all_place_prices, check_long, top_numbers
from jointsapart.errors import BadMost
from jointsapart.ratios import is_whole


class Search:
    """What must be known to go on with a crack within a bound."""

    def __init__(self, wall, prices, most):
        self.bed = prices.bed
        self.most = most
        self.rows = all_place_prices(wall, prices)
        self.tops = top_numbers(wall, prices)

    def ways_on(self, spent, places):
        """Return (spent, places) with each place of the next course from which the rest can be paid, ascending."""
        ways = []
        for at, top in enumerate(self.tops[len(places)]):
            paid = spent + (self.bed * abs(at + 1 - places[-1]) if places else 0)
            if paid + top <= self.most:
                ways.append((paid + self.rows[len(places)][at], (*places, at + 1)))
        return ways


def cracks_within(wall, prices, most):
    """Yield the places of every crack that costs at most `most`, in ascending order."""
    check_long(wall)
    if not is_whole(most):
        raise BadMost()
    search = Search(wall, prices, most)
    many = len(wall)
    places = ()
    yield from _cracks_on(search, many, 0, places)


def _cracks_on(search, many, spent, places):
    """Yield the places of all cracks that go on so, through so many courses more."""
    if many == 0:
        yield places
        return
    fewer = many - 1
    for paid, longer in search.ways_on(spent, places):
        yield from _cracks_on(search, fewer, paid, longer)


def count_cracks(wall, prices):
    """Return the least price of a crack and how many cracks cost just this."""
    check_long(wall)
    rows = all_place_prices(wall, prices)
    leasts = [(cost, 1) for cost in rows[0]]
    for costs in rows[1:]:
        leasts = [(price + cost, many) for (price, many), cost in zip(_along_bed(leasts, prices.bed), costs)]
    return _together(leasts)


def _together(leasts):
    """Return the least price of these (price, number) and how many cost just this."""
    price = min([row[0] for row in leasts])
    return (price, sum([row[1] for row in leasts if row[0] == price]))


def _along_bed(leasts, bed):
    """Return for each place the (price, number) of all that come there along a bed."""
    from_left = _carried(leasts, bed)
    from_right = _carried(leasts[::-1], bed)[::-1]
    return [_together([left, here, right]) for left, here, right in zip(from_left, leasts, from_right)]


def _carried(leasts, bed):
    """Return for each place the (price, number) of all that come there from earlier places."""
    # Nothing comes to the first place; 0 ways at a price that is no bargain count for nothing further on.
    carried = [(leasts[0][0] + bed, 0)]
    for here in leasts[:-1]:
        price, many = _together([carried[-1], here])
        carried.append((price + bed, many))
    return carried
