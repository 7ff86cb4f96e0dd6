"""Changes of a stock: bricks let in and struck out, another lap, another reach."""

from jointsapart.errors import BadChange
from jointsapart.ratios import is_sequence, is_whole
from jointsapart.stock import Stock

# The greatest value that each word takes; the least is 1.
GREATEST = {"let": 8, "strike": 8, "lap": 4, "reach": 2}


def change_flaw(change):
    """Return the word that tells why this is no change, or None."""
    if not is_sequence(change, 2, 2) or not isinstance(change[0], str) or change[0] not in GREATEST:
        return "change"
    return None if is_whole(change[1], 1, GREATEST[change[0]]) else "value"


def check_changes(changes):
    """Raise BadChange for the first of these that is no change."""
    for index, change in enumerate(changes):
        flaw = change_flaw(change)
        if flaw is not None:
            raise BadChange(index, flaw)


def stock_after(stock, changes):
    """Return the stock behind all changes, or None if no brick or more than four are left."""
    if not is_sequence(changes, 0, 100):
        raise BadChange(0, "sequence")
    check_changes(changes)
    return stock_behind(stock, changes)


def stock_behind(stock, changes):
    """Return what stock_after does, for changes that need no check."""
    bricks = {brick: True for brick in stock.bricks}
    told = {"lap": stock.lap, "reach": stock.reach}
    for word, value in changes:
        if word == "let":
            bricks[value] = True
        elif word == "strike":
            bricks.pop(value, None)
        else:
            told[word] = value
    return Stock(sorted(list(bricks)), told["lap"], told["reach"]) if 1 <= len(bricks) <= 4 else None
