"""Rows of bricks between two ends, in order, counted by the ways on from each place."""


def ways_on(bricks, allowed):
    """Return for each place how many rows of bricks lead from it to the last place.

    allowed[place] tells whether a row may have a joint there, or begin there.
    """
    last = len(allowed) - 1
    ways = [0] * last + [1]
    for place in range(last - 1, -1, -1):
        if allowed[place]:
            ways[place] = sum([_ways_at(ways, place + brick) for brick in bricks])
    return ways


def _ways_at(ways, place):
    # A brick that goes beyond the end leads nowhere.
    return ways[place] if place < len(ways) else 0


def first_row(bricks, ways, place=0):
    """Return the first row from this place to the last one; there must be one."""
    row = []
    while place < len(ways) - 1:
        brick = _next_brick(bricks, ways, place, 0)
        row.append(brick)
        place += brick
    return tuple(row)


def _next_brick(bricks, ways, place, brick):
    """Return the least brick above this one that leads on from the place, or None."""
    for greater in bricks:
        if greater > brick and _ways_at(ways, place + greater) > 0:
            return greater
    return None


def rows_of(bricks, ways):
    """Yield all rows from place 0 to the last one, in ascending order."""
    row = first_row(bricks, ways) if ways[0] > 0 else None
    while row is not None:
        yield row
        row = _row_behind(bricks, ways, row)


def _row_behind(bricks, ways, row):
    """Return the row that comes next in the order, or None."""
    place = len(ways) - 1
    for index in range(len(row) - 1, -1, -1):
        place -= row[index]
        greater = _next_brick(bricks, ways, place, row[index])
        if greater is not None:
            return row[:index] + (greater,) + first_row(bricks, ways, place + greater)
    return None


def row_numbered(bricks, ways, number):
    """Return the row with this number, from 0 to ways[0] - 1, in ascending order."""
    row = []
    place = 0
    while place < len(ways) - 1:
        for brick in bricks:
            beginning_so = _ways_at(ways, place + brick)
            if number < beginning_so:
                break
            number -= beginning_so
        row.append(brick)
        place += brick
    return tuple(row)


def number_of_row(bricks, ways, row):
    """Return the number of a row in ascending order."""
    number = 0
    place = 0
    for brick in row:
        number += sum([ways[place + lesser] for lesser in bricks if lesser < brick])
        place += brick
    return number
