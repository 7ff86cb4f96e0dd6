"""Stocks: the brick lengths, the lap and the reach."""

from jointsapart.errors import BadSize, BadStock
from jointsapart.ratios import is_sequence, is_whole


class Stock:
    """The brick lengths that a wall is built of, the lap of its joints and the reach."""

    def __init__(self, bricks, lap=1, reach=1):
        if not _are_bricks(bricks):
            raise BadStock("bricks")
        if not is_whole(lap, 1, 4):
            raise BadStock("lap")
        if not is_whole(reach, 1, 2):
            raise BadStock("reach")
        self.bricks = tuple(bricks)
        self.lap = lap
        self.reach = reach

    def __eq__(self, other):
        return (isinstance(other, Stock) and self.bricks == other.bricks
                and self.lap == other.lap and self.reach == other.reach)

    @property
    def longest(self):
        """The greatest brick."""
        return self.bricks[-1]

    def with_brick(self, brick):
        """Return the stock with this brick let in."""
        _check_brick(brick)
        others = [kept for kept in self.bricks if kept != brick]
        return Stock(sorted([*others, brick]), self.lap, self.reach)

    def without_brick(self, brick):
        """Return the stock with this brick struck out."""
        _check_brick(brick)
        return Stock([kept for kept in self.bricks if kept != brick], self.lap, self.reach)

    def with_lap(self, lap):
        """Return the stock with another lap."""
        return Stock(self.bricks, lap, self.reach)

    def with_reach(self, reach):
        """Return the stock with another reach."""
        return Stock(self.bricks, self.lap, reach)

    def finer(self, size):
        """Return the stock with each brick and the lap `size` times as long."""
        if not is_whole(size, 1, 4):
            raise BadSize()
        return Stock([size * brick for brick in self.bricks], size * self.lap, self.reach)


def _are_bricks(bricks):
    if not is_sequence(bricks, 1, 4) or not all([is_whole(brick, 1, 8) for brick in bricks]):
        return False
    return all([lesser < greater for lesser, greater in zip(bricks, bricks[1:])])


def _check_brick(brick):
    if not is_whole(brick, 1, 8):
        raise BadStock("bricks")
