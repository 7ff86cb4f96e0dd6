"""The bench: changes of a stock are put, taken back and tried."""

from jointsapart.changes import change_flaw, stock_behind
from jointsapart.errors import BadChange, NoChange
from jointsapart.ratios import is_whole
from jointsapart.wishes import broken_wish


class Bench:
    """A stock, the changes that stand on it, and all that was done."""

    def __init__(self, stock):
        self.start = stock
        self.stock = stock
        self.standing = ()
        self.log = ()
        self.given = 0

    def __len__(self):
        return len(self.standing)

    def __iter__(self):
        return iter(self.standing)

    def put(self, change):
        """Put a change and return its number."""
        flaw = change_flaw(change)
        if flaw is not None:
            raise BadChange(0, flaw)
        number = self.given + 1
        told = tuple(change)
        self._stand((*self.standing, (number, told)))
        self.given = number
        self.log = (*self.log, ("put", number, told))
        return number

    def take_back(self, number):
        """Take the standing change with this number away."""
        changes = [change for own, change in self.standing if is_whole(number, own, own)]
        if not changes:
            raise NoChange(number)
        self._stand(tuple([row for row in self.standing if row[0] != number]))
        self.log = (*self.log, ("back", number, changes[0]))

    def _stand(self, standing):
        """Let these changes stand, or raise BadChange and change nothing."""
        stock = stock_behind(self.start, [change for _, change in standing])
        if stock is None:
            raise BadChange(0, "stock")
        self.stock = stock
        self.standing = standing

    def broken(self, wishes):
        """Return what broken_wish returns for the stock."""
        return broken_wish(self.stock, wishes)

    def trial(self):
        """Return an object for a with statement, behind which all is as it was before."""
        return Trial(self)

    def tried(self, call):
        """Return what the function returns for the bench within a trial."""
        with Trial(self) as bench:
            return call(bench)


class Kept:
    """What a bench was when a trial began, and what was kept before that by the same trial."""

    def __init__(self, bench, before):
        self.stock = bench.stock
        self.standing = bench.standing
        self.log = bench.log
        self.given = bench.given
        self.before = before


class Trial:
    """A trial of a bench."""

    def __init__(self, bench):
        self.bench = bench
        self.kept = None

    def __enter__(self):
        self.kept = Kept(self.bench, self.kept)
        return self.bench

    def __exit__(self, kind, value, trace):
        bench = self.bench
        bench.stock = self.kept.stock
        bench.standing = self.kept.standing
        bench.log = self.kept.log
        bench.given = self.kept.given
        self.kept = self.kept.before
