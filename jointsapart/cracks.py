"""Cracks: what it costs to break through every course of a wall, and the numbers that show that none is cheaper."""

from jointsapart.course import joints_of
from jointsapart.errors import BadCrack, BadPrices, NoNumber, TooShort
from jointsapart.ratios import is_sequence, is_whole


class Prices:
    """What a crack pays to go through a brick, and for each place that it shifts along a bed."""

    def __init__(self, brick, bed):
        if not is_whole(brick, 0, 10 ** 6):
            raise BadPrices("brick")
        if not is_whole(bed, 0, 10 ** 6):
            raise BadPrices("bed")
        self.brick = brick
        self.bed = bed

    def __eq__(self, other):
        return isinstance(other, Prices) and self.brick == other.brick and self.bed == other.bed


class Crack:
    """The places of a crack, one for each course, lowest course first, and what they cost."""

    def __init__(self, price, places):
        self.price = price
        self.places = places

    def __eq__(self, other):
        return isinstance(other, Crack) and self.price == other.price and self.places == other.places


def check_long(thing):
    """Return this wall or round if it has a place, or raise TooShort."""
    if thing.length < 2:
        raise TooShort()
    return thing


def are_places(thing, length):
    """Tell whether these are all places of a course of this length."""
    return all([is_whole(place, 1, length - 1) for place in thing])


def place_prices(prices, course, length):
    """Return the price of each place of a course, in ascending order of the places."""
    joints = {joint: True for joint in joints_of(course)}
    return [0 if place in joints else prices.brick for place in range(1, length)]


def all_place_prices(thing, prices):
    """Return a row of the prices of its places for each course of a wall or round."""
    return [place_prices(prices, course, thing.length) for course in thing.courses]


def numbers_along_bed(numbers, bed):
    """Return for each place the least sum of one of the numbers and what the way from its place along a bed costs."""
    least = list(numbers)
    for at in range(1, len(least)):
        least[at] = min(least[at], least[at - 1] + bed)
    for at in range(len(least) - 2, -1, -1):
        least[at] = min(least[at], least[at + 1] + bed)
    return least


def numbers_upon(numbers, bed, costs):
    """Return the greatest floor numbers of a course with these prices of places upon one with these numbers."""
    return [number + cost for number, cost in zip(numbers_along_bed(numbers, bed), costs)]


def _numbers_through(rows, bed):
    """Return the greatest floor numbers of courses with these prices of places, the lowest first."""
    through = [rows[0]]
    for costs in rows[1:]:
        through.append(numbers_upon(through[-1], bed, costs))
    return through


def floor_numbers(wall, prices):
    """Return for each course and place the least price of a crack from the lowest course to there."""
    check_long(wall)
    return tuple([tuple(row) for row in _numbers_through(all_place_prices(wall, prices), prices.bed)])


def top_numbers(wall, prices):
    """Return for each course and place the least price of a crack from there through the topmost course."""
    return _numbers_through(all_place_prices(wall, prices)[::-1], prices.bed)[::-1]


def crack_price(wall, prices, places):
    """Return what the crack with these places costs."""
    check_long(wall)
    if not is_sequence(places, len(wall), len(wall)):
        raise BadCrack(0)
    for index, place in enumerate(places):
        if not is_whole(place, 1, wall.length - 1):
            raise BadCrack(index)
    return price_of_places(places, all_place_prices(wall, prices), prices.bed)


def price_of_places(places, rows, bed):
    """Return what these places cost in courses with these prices of places, and the way along the beds between."""
    through = sum([costs[place - 1] for place, costs in zip(places, rows)])
    return through + bed * sum([abs(upper - lower) for lower, upper in zip(places, places[1:])])


def least_crack(wall, prices):
    """Return a Crack that no other crack of the wall is cheaper than."""
    check_long(wall)
    numbers = top_numbers(wall, prices)
    return _crack_through(numbers, prices.bed, numbers[0].index(min(numbers[0])) + 1)


def crack_from(wall, prices, place):
    """Return a cheapest Crack among those with this place in the lowest course."""
    check_long(wall)
    if not is_whole(place, 1, wall.length - 1):
        raise NoNumber(place)
    return _crack_through(top_numbers(wall, prices), prices.bed, place)


def _crack_through(numbers, bed, place):
    """Return a cheapest Crack from this place of the lowest course, by the top numbers of all courses."""
    places = [place]
    for row in numbers[1:]:
        ways = [number + bed * abs(at + 1 - places[-1]) for at, number in enumerate(row)]
        places.append(ways.index(min(ways)) + 1)
    return Crack(numbers[0][place - 1], tuple(places))
