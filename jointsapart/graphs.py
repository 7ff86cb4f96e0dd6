"""Things and what can come of each of them in one step; many of them are told at once as the bits of a number."""


class Graph:
    """All things that can come of some first ones, numbered in ascending order."""

    def __init__(self, firsts, step):
        following = _all_from(firsts, step)
        self.things = tuple(sorted(list(following)))
        self.numbers = {thing: number for number, thing in enumerate(self.things)}
        self.steps = tuple([tuple([self.numbers[after] for after in following[thing]]) for thing in self.things])
        self.masks = tuple([_bits_of(numbers) for numbers in self.steps])
        self.firsts = _bits_of([self.numbers[thing] for thing in firsts])

    def where(self, holds):
        """Return the bits of the things for which holds(thing) is true."""
        return _bits_of([number for number, thing in enumerate(self.things) if holds(thing)])

    def told(self, bits):
        """Return the ascending things with these bits."""
        return tuple([thing for number, thing in enumerate(self.things) if bits >> number & 1])

    def leading_to(self, bits):
        """Return the bits of the things of which one of these can come in one step."""
        return _bits_of([number for number, mask in enumerate(self.masks) if mask & bits])

    def coming_of(self, bits):
        """Return the bits of the things that can come of one of these in one step."""
        found = 0
        for number, mask in enumerate(self.masks):
            if bits >> number & 1:
                found = found | mask
        return found

    def lasting(self):
        """Return the bits of the things from which steps can be made for ever."""
        kept = (1 << len(self.things)) - 1
        leading = self.leading_to(kept)
        while leading != kept:
            kept = leading
            leading = self.leading_to(kept)
        return kept


def _all_from(firsts, step):
    """Return each thing that can come of the first ones, they among them, with what comes of it in one step."""
    following = {}
    waiting = list(firsts)
    while waiting:
        thing = waiting.pop()
        if thing not in following:
            following[thing] = step(thing)
            waiting.extend(following[thing])
    return following


def _bits_of(numbers):
    bits = 0
    for number in numbers:
        bits = bits | 1 << number
    return bits
