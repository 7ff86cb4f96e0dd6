"""Towers: four sides round a rectangle, opposite ones alike, of courses that are laid again and again."""

from jointsapart.errors import BadHeight
from jointsapart.ratios import is_whole
from jointsapart.sides import check_breadth, check_corners, check_side, exchange_corners, standard_corners
from jointsapart.sidewalks import Walk, walk_by, walk_course


class Tower:
    """The breadth of a tower, its two sides and their Walks."""

    def __init__(self, breadth, one, other, first, second):
        self.breadth = breadth
        self.one = one
        self.other = other
        self.first = first
        self.second = second


class NoTower:
    """The number of a side that has no Walk, 0 or 1, and its Tallest."""

    def __init__(self, number, tallest):
        self.number = number
        self.tallest = tallest


def _check_tower(stock, breadth, one, other, corners):
    """Return the corner word of the side `one`, or raise what is due."""
    check_breadth(breadth)
    check_side(breadth, one, 10)
    check_side(breadth, other, 10)
    return standard_corners(stock) if corners is None else check_corners(corners)


def tower_for(stock, breadth, one, other, corners=None):
    """Return the Tower that serves every height by the corner word, or NoTower."""
    word = _check_tower(stock, breadth, one, other, corners)
    first = walk_by(stock, breadth, one, word)
    if not isinstance(first, Walk):
        return NoTower(0, first)
    second = walk_by(stock, breadth, other, exchange_corners(word))
    if not isinstance(second, Walk):
        return NoTower(1, second)
    return Tower(breadth, one, other, first, second)


def tower_height(stock, breadth, one, other, corners=None):
    """Return the greatest height of a tower by the corner word, or None for every height."""
    word = _check_tower(stock, breadth, one, other, corners)
    walks = [walk_by(stock, breadth, one, word), walk_by(stock, breadth, other, exchange_corners(word))]
    return min([len(walk.courses) for walk in walks if not isinstance(walk, Walk)], default=None)


def tower_course(tower, number):
    """Return the faces of the two sides in the course with this number."""
    return (walk_course(tower.first, number), walk_course(tower.second, number))


def tower_bricks(stock, tower, height):
    """Return for each brick of the stock how many of it the first `height` courses of all four sides have."""
    if not is_whole(height, 1, 10 ** 30):
        raise BadHeight()
    return tuple([2 * (_many_in(tower.first, brick, height) + _many_in(tower.second, brick, height))
                  for brick in stock.bricks])


def _many_in(walk, brick, height):
    """Return how many of a brick the first `height` courses of a walk have."""
    counts = [course.count(brick) for course in walk.courses]
    turns, left = divmod(height, len(counts))
    return turns * sum(counts) + sum(counts[:left])
