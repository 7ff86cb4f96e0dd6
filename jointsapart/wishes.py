"""Wishes about a stock, and what shows that one of them is broken."""

from jointsapart.calendars import first_served, opposite_calendar
from jointsapart.course import lot_flaw
from jointsapart.cracks import Prices
from jointsapart.errors import BadWish
from jointsapart.lengths import Barred, barred_fault, courses_for, length_calendar
from jointsapart.loads import is_amount
from jointsapart.plans import NoPlan, noplan_fault, notice_plan
from jointsapart.ratios import compare, is_ratio, is_sequence, is_whole
from jointsapart.sides import side_round
from jointsapart.stands import first_stand
from jointsapart.strongest import Strongest, strongest_round

# How many items the wish of each word has.
ITEMS = {"every": 2, "not every": 2, "from": 2, "notice": 2, "side": 3, "strong": 4}


class Broken:
    """The index of the first wish that is not fulfilled, and what shows that."""

    def __init__(self, index, why):
        self.index = index
        self.why = why


def check_wishes(wishes):
    """Raise BadWish for what are no wishes."""
    if not is_sequence(wishes, 1, 4):
        raise BadWish(0, "sequence")
    for index, wish in enumerate(wishes):
        if not _is_wish(wish):
            raise BadWish(index, "wish")
        has_values = VALUES[wish[0]]
        if not has_values(wish):
            raise BadWish(index, "value")


def _is_wish(wish):
    if not isinstance(wish, (list, tuple)) or not wish or not isinstance(wish[0], str):
        return False
    return wish[0] in ITEMS and len(wish) == ITEMS[wish[0]]


def _has_length(wish):
    return is_whole(wish[1], 1, 60)


def _has_units(wish):
    return is_whole(wish[1], 0, 60)


def _has_side(wish):
    return is_whole(wish[1], 1, 4) and is_whole(wish[2], 2 * wish[1] + 1, 12)


def _has_strength(wish):
    return is_whole(wish[1], 2, 8) and isinstance(wish[2], Prices) and is_amount(wish[3])


def _every_loss(stock, wish):
    """Return (Barred,) if the length does not serve every height, else None; so do the others, each with its own."""
    found = courses_for(stock, wish[1])
    return (found,) if isinstance(found, Barred) else None


def _lot_loss(stock, wish):
    found = courses_for(stock, wish[1])
    return None if isinstance(found, Barred) else (found,)


def _from_loss(stock, wish):
    least = first_served(opposite_calendar(length_calendar(stock)), wish[1])
    return None if least is None else (least,)


def _notice_loss(stock, wish):
    found = notice_plan(stock, first_stand(stock.reach + 1), wish[1])
    return (found,) if isinstance(found, NoPlan) else None


def _side_loss(stock, wish):
    return (None,) if side_round(stock, wish[1], wish[2]) is None else None


def _strong_loss(stock, wish):
    found = strongest_round(stock, wish[1], wish[2])
    return (found,) if found is None or compare(found.ratio, wish[3]) < 0 else None


def _is_barred(stock, wish, due, why):
    """Tell whether this is a right answer, where `due` is one, too; so do the others."""
    return isinstance(why, Barred) and barred_fault(stock, stock.reach + 1, wish[1], why) is None


def _is_lot(stock, wish, due, why):
    size = stock.reach + 1
    if not isinstance(why, tuple) or lot_flaw(stock, why, size, size) is not None:
        return False
    # A list is no course of a lot, and it has no place in the order of tuples.
    return all([isinstance(course, tuple) and sum(course) == wish[1] for course in why]) and sorted(why) == list(why)


def _is_least(stock, wish, due, why):
    return is_whole(why, due, due)


def _is_no_plan(stock, wish, due, why):
    if not isinstance(why, NoPlan) or not isinstance(why.bounds, (list, tuple)):
        return False
    return noplan_fault(stock, first_stand(stock.reach + 1), why, wish[1]) is None


def _is_nothing(stock, wish, due, why):
    return why is None


def _is_strongest(stock, wish, due, why):
    if due is None or not isinstance(why, Strongest):
        return due is None and why is None
    return due.laid == why.laid and is_ratio(why.ratio) and due.ratio == why.ratio


VALUES = {"every": _has_length, "not every": _has_length, "from": _has_length, "notice": _has_units, "side": _has_side,
          "strong": _has_strength}
LOSSES = {"every": _every_loss, "not every": _lot_loss, "from": _from_loss, "notice": _notice_loss, "side": _side_loss,
          "strong": _strong_loss}
SHOWN = {"every": _is_barred, "not every": _is_lot, "from": _is_least, "notice": _is_no_plan, "side": _is_nothing,
         "strong": _is_strongest}


def broken_wish(stock, wishes):
    """Return Broken for the first wish that is not fulfilled, or None."""
    check_wishes(wishes)
    return first_broken(stock, wishes)


def first_broken(stock, wishes):
    """Return what broken_wish does, for wishes that need no check."""
    for index, wish in enumerate(wishes):
        loss_of = LOSSES[wish[0]]
        loss = loss_of(stock, wish)
        if loss is not None:
            return Broken(index, loss[0])
    return None


def broken_fault(stock, wishes, broken):
    """Return the word that tells what is wrong with a Broken, or None."""
    check_wishes(wishes)
    return fault_beside(stock, wishes, first_broken(stock, wishes), broken)


def fault_beside(stock, wishes, due, broken):
    """Return what broken_fault does, for the Broken or None that is due."""
    if due is None or not is_whole(broken.index, due.index, due.index):
        return "index"
    wish = wishes[due.index]
    is_shown = SHOWN[wish[0]]
    return None if is_shown(stock, wish, due.why, broken.why) else "why"
