"""The least price of a crack for every height of a wall that is laid of a round again and again."""

from math import lcm

from jointsapart.cracks import all_place_prices, check_long, numbers_upon
from jointsapart.errors import BadCrackCalendar, BadHeight, BadMost
from jointsapart.ratios import is_sequence, is_whole
from jointsapart.repeating import ring_within


class CrackCalendar:
    """The least prices of the first heights; each later one is that of `period` courses less, plus `growth`."""

    def __init__(self, firsts, period, growth):
        if not is_sequence(firsts, 1, 10000) or not all([is_whole(price, 0) for price in firsts]):
            raise BadCrackCalendar("firsts")
        if not is_whole(period, 1, len(firsts)):
            raise BadCrackCalendar("period")
        if not is_whole(growth, 0):
            raise BadCrackCalendar("growth")
        self.firsts = tuple(firsts)
        self.period = period
        self.growth = growth

    def __eq__(self, other):
        return (isinstance(other, CrackCalendar) and self.firsts == other.firsts and self.period == other.period
                and self.growth == other.growth)


def _check_height(height):
    if not is_whole(height, 1, 10 ** 30):
        raise BadHeight()


def crack_at(calendar, height):
    """Return the least price for this height."""
    _check_height(height)
    return _price_at(calendar, height)


def _price_at(calendar, height):
    many = len(calendar.firsts)
    turns = max(0, -(-(height - many) // calendar.period))
    return calendar.firsts[height - turns * calendar.period - 1] + turns * calendar.growth


def round_crack(laid, prices, height):
    """Return the least price of a crack of the wall of this height that is laid of the round."""
    check_long(laid)
    _check_height(height)
    rows = all_place_prices(laid, prices)
    turns, left = divmod(height - 1, len(laid))
    numbers = rows[0]
    ways = _ways_of_a_turn(rows, prices.bed)
    while turns > 0:
        if turns % 2 == 1:
            numbers = _numbers_by(numbers, ways)
        turns = turns // 2
        # Behind twice as many turns: each way is put on behind each.
        ways = [_numbers_by(way, ways) for way in ways] if turns > 0 else ways
    for costs in rows[1:left + 1]:
        numbers = numbers_upon(numbers, prices.bed, costs)
    return min(numbers)


def _ways_of_a_turn(rows, bed):
    """Return for each place of the first course what it costs to come from there to each place of its next copy."""
    many = len(rows[0])
    ways = []
    for start in range(many):
        numbers = [bed * abs(start - at) + cost for at, cost in enumerate(rows[1])]
        for costs in [*rows[2:], rows[0]]:
            numbers = numbers_upon(numbers, bed, costs)
        ways.append(numbers)
    return ways


def _numbers_by(numbers, ways):
    """Return for each place the least sum of a number and the way from its place."""
    return [min([number + way[at] for number, way in zip(numbers, ways)]) for at in range(len(numbers))]


def crack_calendar(laid, prices, *, most=4000):
    """Return the CrackCalendar in plain form of the walls that are laid of the round."""
    check_long(laid)
    if not is_whole(most, 1, 4000):
        raise BadMost()
    rows = all_place_prices(laid, prices)
    ring = ring_within((0, _lessened(rows[0])), lambda profile: _profile_upon(profile, prices.bed, rows), most)
    many = len(ring.things)
    found = _prices_of_heights(rows, prices.bed, many + 1)
    # The profiles tell by how much each price is above the one before.
    rises = [upper - lower for lower, upper in zip(found[ring.back:], found[ring.back + 1:])]
    period = _least_turn(rises)
    growth = sum(rises[:period])
    while many > period and found[many - 1] == found[many - 1 - period] + growth:
        many -= 1
    return CrackCalendar(found[:many], period, growth)


def _lessened(numbers):
    least = min(numbers)
    return tuple([number - least for number in numbers])


def _profile_upon(profile, bed, rows):
    """Return the profile of the course upon one with this profile."""
    upper = (profile[0] + 1) % len(rows)
    return (upper, _lessened(numbers_upon(profile[1], bed, rows[upper])))


def _prices_of_heights(rows, bed, many):
    """Return the least prices of the heights 1 to `many`."""
    numbers = rows[0]
    found = [min(numbers)]
    for number in range(1, many):
        numbers = numbers_upon(numbers, bed, rows[number % len(rows)])
        found.append(min(numbers))
    return found


def _least_turn(row):
    """Return the least number of entries that the row is made of, again and again."""
    many = len(row)
    for part in range(1, many):
        if many % part == 0 and row[part:] == row[:many - part]:
            return part
    return many


def stays_stronger(one, other):
    """Return the least height from which on the price of the one is always greater, or None."""
    period = lcm(one.period, other.period)
    gain = one.growth * (period // one.period) - other.growth * (period // other.period)
    begun = max(len(one.firsts), len(other.firsts))
    # From here on each lead is that of `period` courses less, plus the gain.
    leads = [_lead_at(one, other, height) for height in range(begun + 1, begun + period + 1)]
    if gain < 0 or gain == 0 and min(leads) <= 0:
        return None
    if min(leads) <= 0:
        return max([begun + 1 + at + (-lead) // gain * period for at, lead in enumerate(leads) if lead <= 0]) + 1
    height = begun
    while height > 0 and _lead_at(one, other, height) > 0:
        height -= 1
    return height + 1


def _lead_at(one, other, height):
    return _price_at(one, height) - _price_at(other, height)
