"""Rounds: courses that are pairwise apart, laid again and again for every height."""

from jointsapart.course import check_length, length_of, lot_flaw
from jointsapart.errors import BadHeight, BadOrder, BadRound, BadSize, NoNumber
from jointsapart.ratios import is_sequence, is_whole
from jointsapart.tables import Table
from jointsapart.walls import Wall


class Round:
    """As many courses as the reach and one more, each two of them apart, in any order."""

    def __init__(self, stock, courses):
        flaw = _flaw_of(stock, courses)
        if flaw is not None:
            raise BadRound(flaw[0], flaw[1])
        self.stock = stock
        self.courses = tuple([tuple(course) for course in courses])
        self.length = length_of(self.courses[0])

    def __len__(self):
        return len(self.courses)

    def __iter__(self):
        return iter(self.courses)

    def __eq__(self, other):
        return isinstance(other, Round) and self.stock == other.stock and self.courses == other.courses


class Highest:
    """The most courses that are pairwise apart, where they are too few for a round."""

    def __init__(self, courses):
        self.courses = courses

    def __len__(self):
        return len(self.courses)

    def __eq__(self, other):
        return isinstance(other, Highest) and self.courses == other.courses


def _flaw_of(stock, courses):
    """Return the number of a course and the word that tell why this is no round, or None."""
    size = stock.reach + 1
    return lot_flaw(stock, courses, size, size)


def round_fault(stock, courses):
    """Return the word that tells why this is no round, or None."""
    flaw = _flaw_of(stock, courses)
    return None if flaw is None else flaw[1]


def apart_lots(stock, length, size):
    """Yield all ascending tuples of `size` courses of this length that are pairwise apart, in order."""
    check_length(length, 12)
    if not is_whole(size, 1, 4):
        raise BadSize()
    table = Table(stock, length)
    numbers = list(range(len(table.courses)))
    for lot in _lots_among(table, numbers, size):
        yield table.told(lot)


def _lots_among(table, numbers, size):
    """Yield all lots of `size` of these courses, by their numbers, in order."""
    fewer = size - 1
    for at, number in enumerate(numbers):
        if fewer == 0:
            yield (number,)
        else:
            bars = table.bars[number]
            # The course itself is among those that may follow, since one without joints may come again.
            others = [other for other in numbers[at:] if not bars & table.places[other]]
            for lot in _lots_among(table, others, fewer):
                yield (number,) + lot


def round_for(stock, length):
    """Return the first Round of this length, or Highest if there is none."""
    for size in range(stock.reach + 1, 0, -1):
        for lot in apart_lots(stock, length, size):
            return Round(stock, lot) if size > stock.reach else Highest(lot)
    return Highest(())


def all_rounds(stock, length):
    """Yield one Round for each lot of reach + 1 courses, in the order of the lots."""
    size = stock.reach + 1
    for lot in apart_lots(stock, length, size):
        yield Round(stock, lot)


def greatest_height(stock, length):
    """Return the greatest height of a right wall of this length, or None if there is none."""
    found = round_for(stock, length)
    return None if isinstance(found, Round) else len(found)


def course_at(laid, number):
    """Return the course with this number when the round is laid again and again."""
    if not is_whole(number, 0, 10 ** 30):
        raise NoNumber(number)
    return laid.courses[number % len(laid)]


def wall_from(laid, height):
    """Return the wall of the first `height` courses when the round is laid again and again."""
    if not is_whole(height, 1, 60):
        raise BadHeight()
    return Wall(laid.stock, [course_at(laid, number) for number in range(height)])


def rotated(laid, by):
    """Return the round that begins `by` courses further on."""
    if not is_whole(by, -10 ** 30, 10 ** 30):
        raise NoNumber(by)
    size = len(laid)
    return Round(laid.stock, [laid.courses[(number + by) % size] for number in range(size)])


def ordered(laid, order):
    """Return the round with its courses in this order of their numbers."""
    size = len(laid)
    if not is_sequence(order, size, size) or not all([is_whole(number) for number in order]):
        raise BadOrder()
    if sorted(list(order)) != list(range(size)):
        raise BadOrder()
    return Round(laid.stock, [laid.courses[number] for number in order])
