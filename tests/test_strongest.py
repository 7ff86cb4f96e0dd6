"""[8.13] and [8.14]: the round that is the hardest to crack."""

from fractions import Fraction

from jointsapart.crackrates import crack_rate
from jointsapart.cracks import Prices
from jointsapart.rounds import Round, all_rounds
from jointsapart.stock import Stock
from jointsapart.strongest import Strongest, strongest_round
from tests.helper import NOT_WHOLE, Case

TWO = Stock((2, 3))


class Rounds(Case):
    def test_against_all_rounds(self):
        for stock in (TWO, Stock((1, 2, 3)), Stock((1, 2, 4), 1, 2), Stock((1, 2, 3, 8), 1, 2), Stock((3, 5), 2), Stock((8,), 4, 2)):
            for length in range(2, 9):
                for prices in (Prices(3, 1), Prices(3, 2), Prices(5, 0), Prices(0, 4), Prices(10 ** 6, 10 ** 6)):
                    if len(stock.bricks) > 2 and length > 6 and prices.brick != 3:
                        continue
                    rounds = list(all_rounds(stock, length))
                    found = strongest_round(stock, length, prices)
                    if not rounds:
                        self.assertIs(found, None)
                        continue
                    ratios = [Fraction(*crack_rate(laid, prices).ratio) for laid in rounds]
                    self.assertIs(type(found), Strongest)
                    # The first one where several have the greatest ratio.
                    self.assertEqual(found.laid, rounds[ratios.index(max(ratios))])
                    self.assertIs(type(found.laid), Round)
                    self.assertEqual(found.ratio, (max(ratios).numerator, max(ratios).denominator))

    def test_example(self):
        found = strongest_round(TWO, 5, Prices(3, 4))
        self.assertEqual((found.laid.courses, found.ratio), (((2, 3), (3, 2)), (3, 2)))
        self.assertIs(strongest_round(TWO, 4, Prices(3, 4)), None)

    def test_several_rounds_with_one_ratio(self):
        stock = Stock((1, 2, 3))
        rounds = list(all_rounds(stock, 6))
        self.assertGreater(len(rounds), 9)
        found = strongest_round(stock, 6, Prices(0, 0))
        self.assertEqual(found.laid, rounds[0])
        self.assertEqual(found.ratio, (0, 1))

    def test_edges(self):
        # A course without joints is apart from itself: each place is a brick.
        self.assertEqual(strongest_round(TWO, 2, Prices(7, 1)).ratio, (7, 1))
        self.assertEqual(strongest_round(Stock((8,), 4, 2), 8, Prices(7, 1)).laid.courses, ((8,), (8,), (8,)))
        for length in (0, 1, 9, -1, *NOT_WHOLE):
            self.refused("BadLength", {}, strongest_round, TWO, length, Prices(1, 1))

    def test_results_keep_what_they_are_given(self):
        laid, ratio = [], []
        self.assertIs(Strongest(laid, ratio).laid, laid)
        self.assertIs(Strongest(laid, ratio).ratio, ratio)
