"""Which changes of a pool, none of which can be left out, mend a stock so that no wish is broken."""

from jointsapart.changes import check_changes, stock_behind
from jointsapart.errors import BadChange
from jointsapart.parts import has_part, in_order, parts_of
from jointsapart.ratios import is_sequence, is_whole
from jointsapart.wishes import Broken, check_wishes, fault_beside, first_broken


class Mends:
    """The least choices, and why each choice with none of them within it is not good."""

    def __init__(self, least, losses):
        self.least = least
        self.losses = losses

    @property
    def needed(self):
        """The ascending places that are in every least choice."""
        firsts = self.least[0] if self.least else ()
        return tuple([place for place in firsts if all([place in choice for choice in self.least])])


class Spoiler:
    """A least choice, a place that spoils it when it is added, and why."""

    def __init__(self, choice, added, reason):
        self.choice = choice
        self.added = added
        self.reason = reason


class NoStock:
    """The reason of a choice that comes to no stock."""

    def __eq__(self, other):
        return isinstance(other, NoStock)


class Asking:
    """What comes of the choices of a pool; each stock is asked once."""

    def __init__(self, stock, pool, wishes):
        if not is_sequence(pool, 1, 5):
            raise BadChange(0, "pool")
        check_changes(pool)
        check_wishes(wishes)
        self.stock = stock
        self.pool = pool
        self.wishes = wishes
        self.known = {}

    def choices(self):
        """Return all choices in order."""
        return parts_of(list(range(len(self.pool))))

    def stock_by(self, choice):
        """Return the stock that a choice comes to, or None."""
        return stock_behind(self.stock, [self.pool[place] for place in choice])

    def broken_by(self, stock):
        """Return the first wish that this stock breaks, or None."""
        key = (stock.bricks, stock.lap, stock.reach)
        if key not in self.known:
            self.known[key] = first_broken(stock, self.wishes)
        return self.known[key]

    def reason_against(self, choice):
        """Return why a choice is not good, or None."""
        stock = self.stock_by(choice)
        return NoStock() if stock is None else self.broken_by(stock)


def find_mends(stock, pool, wishes):
    """Return the Mends of the stock by this pool for these wishes."""
    return _mends_by(Asking(stock, pool, wishes))


def _mends_by(asking):
    least = []
    losses = []
    for choice in asking.choices():
        if not has_part(choice, least):
            reason = asking.reason_against(choice)
            if reason is None:
                least.append(choice)
            else:
                losses.append((choice, reason))
    return Mends(tuple(least), tuple(losses))


def mends_fault(stock, pool, wishes, mends):
    """Return the word that tells what is wrong with Mends, or None."""
    asking = Asking(stock, pool, wishes)
    least = mends.least
    losses = mends.losses
    if not _are_in_order(least, len(pool)) or not _are_couples(losses):
        return "order"
    lost = tuple([row[0] for row in losses])
    if not _are_in_order(lost, len(pool)):
        return "order"
    if any([has_part(choice, [part for part in least if part != choice]) for choice in (*least, *lost)]):
        return "within"
    if any([choice in least for choice in lost]):
        return "within"
    if any([not has_part(choice, least) and choice not in lost for choice in asking.choices()]):
        return "lacking"
    if any([asking.reason_against(choice) is not None for choice in least]):
        return "good"
    return None if all([_is_reason(asking, choice, reason) for choice, reason in losses]) else "reason"


def _are_in_order(choices, many):
    """Tell whether this is a tuple of choices among so many places, in order, each once."""
    if not isinstance(choices, tuple) or not all([_is_choice(choice, many) for choice in choices]):
        return False
    unlike = {choice: True for choice in choices}
    return len(unlike) == len(choices) and in_order(choices) == list(choices)


def _is_choice(thing, many):
    if not isinstance(thing, tuple) or not all([is_whole(place, 0, many - 1) for place in thing]):
        return False
    return all([lesser < greater for lesser, greater in zip(thing, thing[1:])])


def _are_couples(losses):
    return isinstance(losses, tuple) and all([isinstance(row, tuple) and len(row) == 2 for row in losses])


def _is_reason(asking, choice, reason):
    """Tell whether this is a right reason why a choice is not good."""
    stock = asking.stock_by(choice)
    if stock is None:
        return isinstance(reason, NoStock)
    if not isinstance(reason, Broken):
        return False
    return fault_beside(stock, asking.wishes, asking.broken_by(stock), reason) is None


def find_spoilers(stock, pool, wishes):
    """Return a Spoiler for each place that spoils a least choice when it is added to it."""
    asking = Asking(stock, pool, wishes)
    spoilers = []
    for choice in _mends_by(asking).least:
        for added in [place for place in range(len(pool)) if place not in choice]:
            reason = asking.reason_against(tuple(sorted([*choice, added])))
            if reason is not None:
                spoilers.append(Spoiler(choice, added, reason))
    return tuple(spoilers)
