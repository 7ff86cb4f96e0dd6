"""The least price of a closed crack of a round, by the number of its places, and what shows that none is less."""

from jointsapart.crackjudge import are_rows_of_numbers
from jointsapart.cracks import all_place_prices, are_places, check_long, numbers_along_bed, price_of_places
from jointsapart.means import least_mean
from jointsapart.ratios import is_ratio, make_ratio


class CrackRate:
    """The least rate of a closed crack, such a crack, and a row of numbers for each course of the round."""

    def __init__(self, ratio, ring, numbers):
        self.ratio = ratio
        self.ring = ring
        self.numbers = numbers


def crack_rate(laid, prices):
    """Return the CrackRate of the round."""
    check_long(laid)
    size = len(laid)
    many = laid.length - 1
    rate = least_mean(size * many, _edges_of(laid, prices))
    # Edge number n leads from node n // many; a node is a course and a place.
    nodes = [index // many for index in rate.ring]
    begin = [node // many for node in nodes].index(0)
    ring = [node % many + 1 for node in nodes[begin:] + nodes[:begin]]
    numbers = [rate.numbers[many * number:many * (number + 1)] for number in range(size)]
    return CrackRate(rate.ratio, tuple(ring), tuple(numbers))


def _edges_of(laid, prices):
    """Return the edges from each place of each course to each place of the course upon it."""
    rows = all_place_prices(laid, prices)
    size = len(rows)
    many = len(rows[0])
    return [(many * number + start, many * ((number + 1) % size) + end, prices.bed * abs(start - end) + cost)
            for number in range(size) for start in range(many) for end, cost in enumerate(rows[(number + 1) % size])]


def _rate_of(laid, prices, ring):
    """Return the price of a closed crack by the number of its places."""
    rows = all_place_prices(laid, prices) * (len(ring) // len(laid))
    price = price_of_places(ring, rows, prices.bed) + prices.bed * abs(ring[-1] - ring[0])
    return make_ratio(price, len(ring))


def rate_fault(laid, prices, rate):
    """Return the word that tells what is wrong with a CrackRate of the round, or None."""
    check_long(laid)
    ring = rate.ring
    if not isinstance(ring, (list, tuple)) or not ring or len(ring) % len(laid) != 0:
        return "ring"
    if not are_places(ring, laid.length):
        return "ring"
    if not is_ratio(rate.ratio) or rate.ratio != _rate_of(laid, prices, ring):
        return "ratio"
    if not are_rows_of_numbers(rate.numbers, len(laid), laid.length - 1):
        return "numbers"
    return None if _are_low(laid, prices, rate) else "next"


def _are_low(laid, prices, rate):
    """Tell whether no number is too great for the course beneath it; the last course lies beneath the first one."""
    top, bottom = rate.ratio
    rows = all_place_prices(laid, prices)
    for number, costs in enumerate(rows):
        ways = numbers_along_bed(rate.numbers[number - 1], bottom * prices.bed)
        bounds = [way + bottom * cost - top for way, cost in zip(ways, costs)]
        if not all([own <= bound for own, bound in zip(rate.numbers[number], bounds)]):
            return False
    return True
