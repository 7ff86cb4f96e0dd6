"""Seen spots of a ruin that no right wall has together."""

from jointsapart.errors import ManySeen
from jointsapart.parts import has_part, parts_of
from jointsapart.ruins import Filler
from jointsapart.tables import Table


def least_misfits(ruin):
    """Return all misfits with no other one within them, shorter ones first, those of one length ascending."""
    seen = ruin.seen
    if len(seen) > 8:
        raise ManySeen()
    table = Table(ruin.stock, ruin.length)
    misfits = []
    for spots in parts_of(seen):
        if not has_part(spots, misfits) and Filler(table, _rows_seen_at(ruin, spots)).count_from(0, ()) == 0:
            misfits.append(spots)
    return tuple(misfits)


def _rows_seen_at(ruin, spots):
    """Return the rows of the ruin with the signs at these spots alone."""
    return ["".join([sign if (course, at + 1) in spots else "?" for at, sign in enumerate(row)])
            for course, row in enumerate(ruin.rows)]
