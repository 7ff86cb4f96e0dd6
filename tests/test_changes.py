"""[10.6]: changes of a stock."""

from itertools import product

from jointsapart.changes import stock_after
from jointsapart.stock import Stock
from tests.helper import NOT_SEQUENCES, NOT_WHOLE, Case

TWO = Stock((2, 3))
NOT_CHANGES = ((), ("let",), ("let", 1, 2), ("put", 1), ("LET", 1), (None, 1), (1, "let"), (["let"], 1), (b"let", 1), "lt", *NOT_SEQUENCES)


def slow_after(stock, changes):
    """The stock behind all changes, by the last change of each thing alone; None if there is none."""
    last = {}
    for word, value in changes:
        last[("brick", value) if word in ("let", "strike") else word] = (word, value)
    bricks = [brick for brick in range(1, 9) if last.get(("brick", brick), ("let" if brick in stock.bricks else "",))[0] == "let"]
    if not 1 <= len(bricks) <= 4:
        return None
    return Stock(bricks, last.get("lap", (0, stock.lap))[1], last.get("reach", (0, stock.reach))[1])


class Changes(Case):
    def test_each_word(self):
        self.assertEqual(stock_after(TWO, ()), TWO)
        self.assertEqual(stock_after(TWO, [("let", 8)]), Stock((2, 3, 8)))
        self.assertEqual(stock_after(TWO, (["let", 1],)), Stock((1, 2, 3)))
        self.assertEqual(stock_after(TWO, [("let", 2)]), TWO)
        self.assertEqual(stock_after(TWO, [("strike", 2)]), Stock((3,)))
        self.assertEqual(stock_after(TWO, [("strike", 4)]), TWO)
        self.assertEqual(stock_after(TWO, [("lap", 4)]), Stock((2, 3), 4))
        self.assertEqual(stock_after(Stock((2, 3), 2), [("reach", 2)]), Stock((2, 3), 2, 2))

    def test_only_the_end_counts(self):
        # A fifth brick that is taken away again, and no brick on the way.
        self.assertEqual(stock_after(Stock((1, 2, 3, 4)), [("let", 5), ("strike", 1)]), Stock((2, 3, 4, 5)))
        self.assertEqual(stock_after(Stock((1, 2, 3, 4)), [("let", 5), ("let", 6), ("strike", 5), ("strike", 6)]), Stock((1, 2, 3, 4)))
        self.assertEqual(stock_after(TWO, [("strike", 2), ("strike", 3), ("let", 7)]), Stock((7,)))
        self.assertIs(stock_after(TWO, [("strike", 2), ("strike", 3)]), None)
        self.assertIs(stock_after(Stock((1, 2, 3, 4)), [("let", 5)]), None)
        self.assertIs(stock_after(TWO, [("let", 2), ("strike", 2), ("strike", 3)]), None)

    def test_of_several_changes_of_one_thing_only_the_last_one_matters(self):
        changes = [("let", 1), ("strike", 1), ("lap", 1), ("lap", 3), ("reach", 2), ("reach", 1), ("let", 5), ("strike", 2)]
        for stock in (TWO, Stock((1, 2, 3, 4), 2, 2), Stock((2,))):
            for picked in product(changes, repeat=3):
                self.assertEqual(stock_after(stock, picked), slow_after(stock, picked))
                self.assertEqual(stock_after(stock, [list(change) for change in picked]), slow_after(stock, picked))

    def test_how_many(self):
        for many in (0, 1, 100):
            self.assertEqual(stock_after(TWO, [("let", 2)] * many), TWO)
            self.assertEqual(stock_after(TWO, [("let", 7)] * many), Stock((2, 3, 7)) if many else TWO)
        for changes in ([("let", 2)] * 101, (("x",),) * 101, *NOT_SEQUENCES):
            self.refused("BadChange", {"index": 0, "what": "sequence"}, stock_after, TWO, changes)

    def test_refused_in_order(self):
        for index in range(3):
            for wrong in NOT_CHANGES:
                changes = [("let", 2)] * 3
                changes[index] = wrong
                self.refused("BadChange", {"index": index, "what": "change"}, stock_after, TWO,
                             [*changes[:index + 1], *[("let", 0)] * (2 - index)])
            for word, most in (("let", 8), ("strike", 8), ("lap", 4), ("reach", 2)):
                for value in (0, most + 1, -1, *NOT_WHOLE):
                    changes = [("let", 2)] * 3
                    changes[index] = (word, value)
                    self.refused("BadChange", {"index": index, "what": "value"}, stock_after, TWO,
                                 [*changes[:index + 1], *[None] * (2 - index)])
        for word, most in (("let", 8), ("strike", 8), ("lap", 4), ("reach", 2)):
            for value in (1, most):
                stock_after(Stock((2, 3, 4)), [(word, value)])

    def test_nothing_is_changed(self):
        stock = Stock((2, 3))
        changes = [["let", 4], ["lap", 2]]
        found = stock_after(stock, changes)
        changes[0][1] = 9
        changes.clear()
        self.assertEqual((found, stock), (Stock((2, 3, 4), 2), Stock((2, 3))))
