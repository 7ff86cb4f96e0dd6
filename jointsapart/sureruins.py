"""What is alike in all fillings of a ruin."""

from jointsapart.errors import NoFilling
from jointsapart.ruins import check_spot, filler_of, fillings


def sure_rows(ruin):
    """Return the rows of the ruin with the signs that all fillings have."""
    filler = filler_of(ruin)
    if filler.count_from(0, ()) == 0:
        raise NoFilling()
    rows = []
    tops = [()]
    for level in range(len(ruin)):
        steps = [(top, number) for top in tops for number in filler.numbers_on(level, top)]
        numbers = {number: True for _, number in steps}
        rows.append(_sure_row([filler.table.places[number] for number in numbers], ruin.length))
        unlike = {filler.table.top_with(top, number): True for top, number in steps}
        tops = list(unlike)
    return tuple(rows)


def _sure_row(courses, length):
    """Return a row with the signs that all these courses have, told by the bits of their joints."""
    return "".join([_sure_sign([bits >> place & 1 for bits in courses]) for place in range(1, length)])


def _sure_sign(joints):
    if min(joints) == 1:
        return "j"
    return "b" if max(joints) == 0 else "?"


def two_fillings(ruin, course, place):
    """Return the first filling with a joint there and the first one with none, or None if all are alike there."""
    check_spot(ruin, course, place)
    if _first_filling(ruin) is None:
        raise NoFilling()
    if ruin.rows[course][place - 1] != "?":
        return None
    joint = _first_filling(ruin.with_sign(course, place, "j"))
    brick = _first_filling(ruin.with_sign(course, place, "b"))
    return None if joint is None or brick is None else (joint, brick)


def _first_filling(ruin):
    """Return the first filling of the ruin, or None."""
    for wall in fillings(ruin):
        return wall
    return None
