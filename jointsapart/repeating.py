"""Endless sequences that go round, and how they come of steps."""

from jointsapart.errors import BadLength, BadMost, Wide
from jointsapart.ratios import as_tuples, is_whole


class Repeating:
    """Things in a row; behind the last one it goes on with the thing number `back`, again and again."""

    def __init__(self, things, back):
        self.things = as_tuples(things)
        self.back = back

    def __eq__(self, other):
        return isinstance(other, Repeating) and self.things == other.things and self.back == other.back

    def at(self, number):
        """Return the thing with this number, from 0."""
        check_far(number)
        many = len(self.things)
        if number < many:
            return self.things[number]
        return self.things[self.back + (number - self.back) % (many - self.back)]


def check_far(number):
    """Return a whole number from 0 to 10 ** 30, or raise BadLength."""
    if not is_whole(number, 0, 10 ** 30):
        raise BadLength()
    return number


def until_repeated(first, step, *, most=4000):
    """Return the Repeating of the first thing and of what comes of it step by step."""
    if not is_whole(most, 1, 4000):
        raise BadMost()
    return ring_within(first, step, most)


def ring_within(first, step, most=None):
    """Return what until_repeated does; a bound that is None does not bind."""
    numbers = {}
    thing = first
    while thing not in numbers:
        if len(numbers) == most:
            raise Wide(most)
        numbers[thing] = len(numbers)
        thing = step(thing)
    return Repeating(list(numbers), numbers[thing])


def without_first(ring):
    """Return the endless sequence without its first thing."""
    return Repeating([*ring.things[1:], ring.things[ring.back]], ring.back)
