"""Ascending rows of things, and which of them lie within others."""


def in_order(rows):
    """Return the rows in order: shorter ones first, those of one length ascending."""
    by_length = sorted([(len(row), row) for row in rows])
    return [row for _, row in by_length]


def parts_of(row):
    """Return in order all tuples of some things of an ascending row."""
    parts = [()]
    for thing in row:
        parts = parts + [(*part, thing) for part in parts]
    return in_order(parts)


def has_part(row, parts):
    """Tell whether all things of one of the parts are in the row."""
    there = {thing: True for thing in row}
    return any([all([thing in there for thing in part]) for part in parts])


def least_among(rows):
    """Return in order those rows, each ascending and once, within which no other one lies."""
    unlike = {tuple(sorted(set(row))): True for row in rows}
    least = []
    for row in in_order(unlike):
        if not has_part(row, least):
            least.append(row)
    return least
