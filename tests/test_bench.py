"""[10.12]: the bench."""

from jointsapart.bench import Bench
from jointsapart.changes import stock_after
from jointsapart.stock import Stock
from jointsapart.wishes import Broken, broken_fault
from tests.helper import NOT_WHOLE, Case
from tests.test_changes import NOT_CHANGES

TWO = Stock((2, 3))


class OwnError(Exception):
    """What is raised within a trial."""


def state(bench):
    return (bench.start, bench.stock, bench.standing, bench.log, len(bench), list(bench))


class Changes(Case):
    def check(self, bench, standing, log):
        self.same_tuple(bench.standing, standing)
        self.same_tuple(bench.log, log)
        self.assertEqual(len(bench), len(standing))
        self.assertEqual(list(bench), list(standing))
        self.assertEqual(bench.start, TWO)
        self.assertEqual(bench.stock, stock_after(TWO, [change for _, change in standing]))

    def test_put_and_take_back(self):
        bench = Bench(TWO)
        self.check(bench, (), ())
        change = ["let", 4]
        self.assertEqual(bench.put(change), 1)
        change[1] = 9
        self.check(bench, ((1, ("let", 4)),), (("put", 1, ("let", 4)),))
        self.assertEqual(bench.put(("lap", 2)), 2)
        self.assertEqual(bench.put(("strike", 2)), 3)
        self.assertEqual(bench.stock, Stock((3, 4), 2))
        # Taken away wherever it stands.
        self.assertIs(bench.take_back(2), None)
        standing = ((1, ("let", 4)), (3, ("strike", 2)))
        log = (("put", 1, ("let", 4)), ("put", 2, ("lap", 2)), ("put", 3, ("strike", 2)), ("back", 2, ("lap", 2)))
        self.check(bench, standing, log)
        self.assertEqual(bench.stock, Stock((3, 4)))
        # Numbers are given once, also when the last one was taken back.
        bench.take_back(3)
        self.assertEqual(bench.put(("let", 4)), 4)
        self.check(bench, ((1, ("let", 4)), (4, ("let", 4))), (*log, ("back", 3, ("strike", 2)), ("put", 4, ("let", 4))))

    def test_only_the_end_counts(self):
        bench = Bench(TWO)
        bench.put(("let", 4))
        bench.put(("let", 5))
        self.refused("BadChange", {"index": 0, "what": "stock"}, bench.put, ("let", 6))
        bench.put(("strike", 5))
        bench.put(("let", 6))
        # Without the third change there would be five bricks.
        before = state(bench)
        self.refused("BadChange", {"index": 0, "what": "stock"}, bench.take_back, 3)
        self.assertEqual(state(bench), before)
        bench.take_back(2)
        bench.take_back(3)
        self.check(bench, ((1, ("let", 4)), (4, ("let", 6))), bench.log)

    def test_no_brick_left(self):
        bench = Bench(TWO)
        bench.put(("strike", 2))
        before = state(bench)
        self.refused("BadChange", {"index": 0, "what": "stock"}, bench.put, ("strike", 3))
        self.assertEqual(state(bench), before)
        self.assertEqual(bench.put(("reach", 2)), 2)
        self.check(bench, ((1, ("strike", 2)), (2, ("reach", 2))), (("put", 1, ("strike", 2)), ("put", 2, ("reach", 2))))

    def test_refused(self):
        bench = Bench(TWO)
        bench.put(("let", 4))
        bench.put(("lap", 2))
        bench.take_back(1)
        before = state(bench)
        for wrong in NOT_CHANGES:
            self.refused("BadChange", {"index": 0, "what": "change"}, bench.put, wrong)
        for wrong in (("let", 9), ("strike", 0), ("lap", 5), ("reach", 3), *[("let", value) for value in NOT_WHOLE]):
            self.refused("BadChange", {"index": 0, "what": "value"}, bench.put, wrong)
        for number in (1, 0, 3, -1, *NOT_WHOLE):
            self.refused("NoChange", {"number": number}, bench.take_back, number)
        self.assertEqual(state(bench), before)
        self.assertEqual(bench.put(("let", 4)), 3)

    def test_true_is_no_number(self):
        bench = Bench(TWO)
        bench.put(("let", 4))
        self.refused("NoChange", {"number": True}, bench.take_back, True)
        self.assertEqual(len(bench), 1)

    def test_100_changes(self):
        bench = Bench(TWO)
        for number in range(1, 101):
            self.assertEqual(bench.put(("let", 4 + number % 2) if number % 3 else ("strike", 4)), number)
        self.assertEqual(bench.stock, stock_after(TWO, [change for _, change in bench]))
        self.assertEqual([number for number, _ in bench], list(range(1, 101)))

    def test_benches_do_not_share(self):
        one, other = Bench(TWO), Bench(TWO)
        one.put(("let", 4))
        self.check(other, (), ())
        self.assertIs(one == other, False)

    def test_broken(self):
        bench = Bench(TWO)
        found = bench.broken([("every", 5), ("every", 4)])
        self.assertIs(type(found), Broken)
        self.assertIs(broken_fault(TWO, [("every", 5), ("every", 4)], found), None)
        bench.put(("let", 4))
        self.assertIs(bench.broken([("every", 5), ("every", 4)]), None)
        self.refused("BadWish", {"index": 0, "what": "sequence"}, bench.broken, [])
        self.refused("BadWish", {"index": 1, "what": "value"}, bench.broken, [("every", 5), ("every", 0)])


class Trials(Case):
    def bench(self):
        bench = Bench(TWO)
        bench.put(("let", 4))
        bench.put(("lap", 2))
        bench.take_back(1)
        return bench

    def test_all_is_as_it_was(self):
        bench = self.bench()
        before = state(bench)
        with bench.trial() as tried:
            self.assertIs(tried, bench)
            self.assertEqual(bench.put(("let", 7)), 3)
            bench.take_back(2)
            self.assertEqual(bench.stock, Stock((2, 3, 7)))
            self.assertEqual(len(bench.log), 5)
        self.assertEqual(state(bench), before)
        # The numbers, too.
        self.assertEqual(bench.put(("let", 8)), 3)

    def test_an_error_goes_on(self):
        bench = self.bench()
        before = state(bench)
        with self.assertRaises(OwnError):
            with bench.trial():
                bench.put(("let", 7))
                raise OwnError()
        self.assertEqual(state(bench), before)
        with self.assertRaises(ValueError):
            with bench.trial():
                bench.put(("let", 7))
                bench.put(("let", 9))
        self.assertEqual(state(bench), before)
        self.assertEqual(bench.put(("let", 8)), 3)

    def test_as_it_was_when_the_block_was_entered(self):
        bench = self.bench()
        trial = bench.trial()
        bench.put(("let", 7))
        before = state(bench)
        with trial:
            bench.take_back(3)
        self.assertEqual(state(bench), before)
        bench.put(("let", 8))
        before = state(bench)
        with trial:
            bench.put(("lap", 4))
        self.assertEqual(state(bench), before)

    def test_trials_within_trials(self):
        bench = self.bench()
        states = []

        def go(depth):
            states.append(state(bench))
            bench.put(("lap", depth + 1))
            if depth < 3:
                with bench.trial():
                    go(depth + 1)
                self.assertEqual(len(bench), depth + 2)
        before = state(bench)
        with bench.trial():
            go(0)
        self.assertEqual(state(bench), before)
        self.assertEqual([len(told[2]) for told in states], [1, 2, 3, 4])
        # The same object twice.
        trial = bench.trial()
        with trial:
            bench.put(("let", 7))
            inner = state(bench)
            with trial:
                bench.put(("let", 8))
            self.assertEqual(state(bench), inner)
        self.assertEqual(state(bench), before)

    def test_tried(self):
        bench = self.bench()
        before = state(bench)
        self.assertEqual(bench.tried(lambda own: (own is bench, own.put(("let", 7)), own.stock)), (True, 3, Stock((2, 3, 7), 2)))
        self.assertEqual(state(bench), before)
        with self.assertRaises(OwnError):
            bench.tried(self.fails)
        self.assertEqual(state(bench), before)
        self.assertEqual(bench.tried(lambda own: own.tried(lambda inner: inner.put(("let", 8))) + own.put(("let", 8))), 6)
        self.refused("NoChange", {"number": 1}, bench.tried, lambda own: own.take_back(1))
        self.assertEqual(state(bench), before)
        self.assertEqual(bench.put(("let", 8)), 3)

    def fails(self, bench):
        bench.put(("let", 7))
        raise OwnError()
