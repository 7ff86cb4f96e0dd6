"""[10.9] to [10.11]: which changes of a pool mend a stock, the judge, and what spoils a mend."""

from itertools import combinations

from jointsapart.changes import stock_after
from jointsapart.cracks import Prices
from jointsapart.lengths import courses_for
from jointsapart.mends import Mends, NoStock, Spoiler, find_mends, find_spoilers, mends_fault
from jointsapart.stock import Stock
from jointsapart.wishes import Broken, broken_fault, broken_wish
from tests.helper import NOT_SEQUENCES, Case
from tests.test_changes import NOT_CHANGES

TWO = Stock((2, 3))
POOL = [("let", 4), ("let", 1)]
WISHES = [("every", 4), ("not every", 1)]
CASES = [
    (TWO, POOL, WISHES), (TWO, POOL[:1], WISHES), (TWO, [["strike", 2], ["strike", 3]], [["from", 60]]),
    (TWO, [("let", 1), ("let", 4), ("let", 5), ("lap", 2), ("reach", 2)], [("every", 6), ("not every", 5)]),
    (TWO, [("lap", 2), ("let", 5), ("lap", 1), ("strike", 2), ("let", 2)], [("every", 5), ("from", 9)]),
    (Stock((1, 2, 3, 4)), [("let", 5), ("strike", 1), ("strike", 4), ("reach", 2)], [("from", 5), ("not every", 3), ("notice", 4)]),
    (Stock((8,)), [("strike", 8), ("let", 8), ("let", 3), ("let", 5)], [("side", 1, 5), ("every", 8), ("not every", 1)]),
    (TWO, [("let", 1), ("strike", 3), ("lap", 2)], [("strong", 6, Prices(3, 1), (1, 1)), ("every", 6)]),
    # No least choice, and a choice that comes to no stock; the empty choice as the least.
    (TWO, [("strike", 2), ("strike", 3)], [("every", 4)]), (TWO, [("let", 7), ("strike", 2)], [("every", 5)]),
    # One least choice of one place, and two of two places.
    (TWO, [("let", 4), ("let", 6), ("let", 8)], [("every", 4), ("every", 60)]),
    (TWO, [("let", 4), ("let", 8), ("reach", 2)], [("every", 12), ("not every", 5)]),
]


def all_choices(many):
    return [choice for size in range(many + 1) for choice in combinations(range(many), size)]


def slow_reason(stock, pool, wishes, choice):
    """(None,) for a good choice, "stock", or the index of the wish that is broken and why."""
    after = stock_after(stock, [pool[place] for place in choice])
    if after is None:
        return "stock"
    broken = broken_wish(after, wishes)
    return None if broken is None else (broken.index, type(broken.why))


def told(reason):
    return "stock" if isinstance(reason, NoStock) else (reason.index, type(reason.why))


class Found(Case):
    def test_against_all_choices(self):
        for stock, pool, wishes in CASES:
            found = find_mends(stock, pool, wishes)
            reasons = {choice: slow_reason(stock, pool, wishes, choice) for choice in all_choices(len(pool))}
            good = [choice for choice in reasons if reasons[choice] is None]
            least = [choice for choice in good if not any(set(other) < set(choice) for other in good)]
            self.assertIs(type(found), Mends)
            self.same_tuple(found.least, tuple(least))
            losses = [choice for choice in reasons if not any(set(other) <= set(choice) for other in least)]
            self.assertIs(type(found.losses), tuple)
            self.assertEqual([row[0] for row in found.losses], losses)
            for row in found.losses:
                self.assertIs(type(row), tuple)
                self.assertEqual(told(row[1]), reasons[row[0]])
            self.assertEqual(found.needed, tuple(place for place in range(len(pool)) if least and all(place in choice for choice in least)))
            self.assertIs(mends_fault(stock, pool, wishes, found), None)

    def test_example(self):
        found = find_mends(TWO, POOL, WISHES)
        self.assertEqual((found.least, found.needed), (((0,),), (0,)))
        self.assertEqual([choice for choice, _ in found.losses], [(), (1,)])
        self.assertEqual(found.losses[0][1].why, courses_for(TWO, 4))
        spoilers = find_spoilers(TWO, POOL, WISHES)
        self.assertEqual([(spoiler.choice, spoiler.added) for spoiler in spoilers], [((0,), 1)])
        self.assertEqual((spoilers[0].reason.index, spoilers[0].reason.why), (1, ((1,), (1,))))

    def test_pools_of_one_and_five(self):
        self.assertEqual(find_mends(TWO, [("let", 4)], [("every", 4)]).least, ((0,),))
        self.assertEqual(find_mends(TWO, [("let", 2)] * 5, [("every", 5)]).least, ((),))
        self.assertEqual(len(find_mends(TWO, [("let", 2)] * 5, [("every", 4)]).losses), 32)
        self.assertEqual(find_mends(TWO, [("let", 4)] * 5, [("every", 4)]).least, ((0,), (1,), (2,), (3,), (4,)))

    def test_no_stock(self):
        found = find_mends(TWO, [("strike", 2), ("strike", 3)], [("every", 4)])
        self.assertEqual((found.least, found.needed), ((), ()))
        self.assertEqual([told(reason)[0] for _, reason in found.losses], [0, 0, 0, "s"])
        self.assertEqual(found.losses[3][1], NoStock())

    def test_changes_in_the_order_of_the_pool(self):
        found = find_mends(TWO, [("lap", 4), ("lap", 1)], [("every", 5)])
        self.assertEqual(found.least, ((),))
        found = find_mends(Stock((2, 3), 4), [("lap", 1), ("lap", 4)], [("every", 5)])
        self.assertEqual([found.least, [choice for choice, _ in found.losses]], [((0,),), [(), (1,)]])
        self.assertEqual([spoiler.added for spoiler in find_spoilers(Stock((2, 3), 4), [("lap", 1), ("lap", 4)], [("every", 5)])], [1])

    def test_refused_in_order(self):
        mends = find_mends(TWO, POOL, WISHES)
        for function in (find_mends, find_spoilers, lambda stock, pool, wishes: mends_fault(stock, pool, wishes, mends)):
            for pool in ((), POOL * 3, (None,) * 6, *NOT_SEQUENCES):
                self.refused("BadChange", {"index": 0, "what": "pool"}, function, TWO, pool, None)
            for index in range(5):
                for wrong in NOT_CHANGES:
                    self.refused("BadChange", {"index": index, "what": "change"}, function, TWO,
                                 [*[("let", 4)] * index, wrong, *[("let", 9)] * (4 - index)], None)
                self.refused("BadChange", {"index": index, "what": "value"}, function, TWO,
                             [*[("let", 4)] * index, ("let", True), *[None] * (4 - index)], None)
            for wishes in ((), [WISHES[0]] * 5, None):
                self.refused("BadWish", {"index": 0, "what": "sequence"}, function, TWO, POOL, wishes)
            self.refused("BadWish", {"index": 1, "what": "wish"}, function, TWO, POOL, [WISHES[0], ("all", 4)])
            self.refused("BadWish", {"index": 1, "what": "value"}, function, TWO, POOL, [WISHES[0], ("every", 61)])

    def test_nothing_is_changed(self):
        pool, wishes = [["let", 4], ["let", 1]], [["every", 4], ["not every", 1]]
        found = find_mends(TWO, pool, wishes)
        self.assertEqual((pool, wishes), ([["let", 4], ["let", 1]], [["every", 4], ["not every", 1]]))
        pool.clear()
        wishes.clear()
        self.assertIs(mends_fault(TWO, POOL, WISHES, found), None)


class Spoilers(Case):
    def test_against_all_choices(self):
        for stock, pool, wishes in CASES:
            due = []
            for choice in find_mends(stock, pool, wishes).least:
                for added in range(len(pool)):
                    reason = slow_reason(stock, pool, wishes, tuple(sorted([*choice, added])))
                    if added not in choice and reason is not None:
                        due.append((choice, added, reason))
            found = find_spoilers(stock, pool, wishes)
            self.assertIs(type(found), tuple)
            self.assertEqual({type(spoiler) for spoiler in found} - {Spoiler}, set())
            self.assertEqual([(spoiler.choice, spoiler.added, told(spoiler.reason)) for spoiler in found], due)
            for spoiler in found:
                if isinstance(spoiler.reason, Broken):
                    after = stock_after(stock, [pool[place] for place in sorted([*spoiler.choice, spoiler.added])])
                    self.assertIs(broken_fault(after, wishes, spoiler.reason), None)

    def test_an_added_change_takes_its_place_in_the_pool(self):
        stock, pool = Stock((2, 3), 4), [("lap", 4), ("lap", 1), ("lap", 3)]
        self.assertEqual(find_mends(stock, pool, [("every", 5)]).least, ((1,),))
        self.assertEqual([spoiler.added for spoiler in find_spoilers(stock, pool, [("every", 5)])], [2])

    def test_a_spoiler_without_a_stock(self):
        found = find_spoilers(Stock((2,)), [("let", 3), ("strike", 2), ("strike", 3)], [("not every", 4)])
        self.assertEqual([(spoiler.choice, spoiler.added, told(spoiler.reason)) for spoiler in found][:1], [((), 1, "stock")])


class Judged(Case):
    STOCK, ASKED, WANTED = CASES[10]

    def setUp(self):
        self.mends = find_mends(self.STOCK, self.ASKED, self.WANTED)
        self.least, self.losses = self.mends.least, self.mends.losses
        self.assertEqual((self.least, len(self.losses)), (((0,),), 4))

    def check(self, word, least=None, losses=None):
        mends = Mends(self.least if least is None else least, self.losses if losses is None else losses)
        self.assertEqual(mends_fault(self.STOCK, self.ASKED, self.WANTED, mends), word)

    def test_order(self):
        for least in ([(0,)], None, 5, (0,), ([0],), ((0,), (0,)), ((1,), (0,)), ((0, 1), (2,)), ((3,),), ((-1,),), ((1, 0),), ((0, 0),), ((True,),),
                      (None,), (((0,),),), ("0",)):
            self.assertEqual(mends_fault(self.STOCK, self.ASKED, self.WANTED, Mends(least, self.losses)), "order")
        reason = self.losses[0][1]
        for losses in (list(self.losses), None, 5, self.losses[::-1], (*self.losses, self.losses[3]), ((),), ([(), reason],), (((), reason, 1),),
                       (((), reason), ((9,), reason)), ((None, reason),), (([], reason),), (((1, 2),),), ("ab",), (1,)):
            self.assertEqual(mends_fault(self.STOCK, self.ASKED, self.WANTED, Mends(self.least, losses)), "order")

    def test_within(self):
        reason = self.losses[0][1]
        self.check("within", least=((0,), (0, 1)))
        self.check("within", least=((), (0,)))
        self.check("within", losses=tuple(sorted([*self.losses, ((0,), reason)], key=lambda row: (len(row[0]), row[0]))))
        self.check("within", losses=(*self.losses, ((0, 1, 2), reason)))
        self.check("within", losses=(*self.losses[:3], ((0, 1), reason), self.losses[3]))

    def test_lacking(self):
        for at in range(4):
            self.check("lacking", losses=self.losses[:at] + self.losses[at + 1:])
        self.check("lacking", least=())
        self.check("lacking", least=((0, 1),))
        self.check("lacking", losses=())

    def test_good(self):
        # A least choice that is not good, and all is told that has none within it.
        self.check("good", least=((0,), (1,)), losses=tuple(row for row in self.losses if 1 not in row[0]))
        self.check("good", least=((),), losses=())
        self.assertEqual(mends_fault(TWO, CASES[8][1], CASES[8][2], Mends(((0, 1),), find_mends(*CASES[8]).losses[:3])), "good")

    def test_reason(self):
        reason = self.losses[0][1]
        for wrong in (None, NoStock(), Broken(1, reason.why), Broken(0, None), Broken(False, reason.why), reason.why, (0, reason.why), 0):
            self.check("reason", losses=(((), wrong), *self.losses[1:]))
        # Each reason is judged for its own stock.
        for at in range(1, 4):
            self.check("reason", losses=(*self.losses[:at], (self.losses[at][0], NoStock()), *self.losses[at + 1:]))
        self.check(None, losses=tuple((choice, Broken(own.index, own.why)) for choice, own in self.losses))
        # A good choice among the losses has no reason at all.
        self.check("reason", least=(), losses=tuple(sorted([*self.losses, *[(choice, reason) for choice in all_choices(3) if 0 in choice]],
                                                           key=lambda row: (len(row[0]), row[0]))))
        stock, pool, wishes = CASES[8]
        losses = find_mends(stock, pool, wishes).losses
        self.assertIs(mends_fault(stock, pool, wishes, Mends((), losses)), None)
        for wrong in (None, losses[0][1], "stock"):
            self.assertEqual(mends_fault(stock, pool, wishes, Mends((), (*losses[:3], ((0, 1), wrong)))), "reason")

    def test_each_word_is_looked_for_everywhere_before_the_next(self):
        self.check("within", least=((), (0,), (1,)), losses=())
        self.check("lacking", least=((1,),), losses=(((), None),))
        self.check("good", least=((1,),), losses=(((), None), ((0,), None), ((2,), None), ((0, 2), None)))
        self.check("order", least=((), (0,), (0,)), losses=())


class Results(Case):
    def test_needed(self):
        for least, due in (((), ()), (((),), ()), (((0, 2), (1, 2)), (2,)), (((0, 1, 4), (1, 2, 4)), (1, 4)), (((0,), (1,)), ()), (((3,),), (3,))):
            self.same_tuple(Mends(least, ()).needed, due)

    def test_results_keep_what_they_are_given(self):
        one, other, third = [], [], []
        self.assertIs(Mends(one, other).least, one)
        self.assertIs(Mends(one, other).losses, other)
        spoiler = Spoiler(one, other, third)
        self.assertIs(spoiler.choice, one)
        self.assertIs(spoiler.added, other)
        self.assertIs(spoiler.reason, third)

    def test_no_stock_objects_are_equal(self):
        self.assertIs(NoStock() == NoStock(), True)
        self.assertIs(NoStock() != NoStock(), False)
        for other in (None, 0, (), Broken(0, None)):
            self.assertIs(NoStock() == other, False)
            self.assertIs(NoStock() != other, True)
