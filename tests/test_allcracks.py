"""[8.6]: all cracks within a bound, and how many are the cheapest."""

from itertools import islice

from jointsapart.allcracks import count_cracks, cracks_within
from jointsapart.cracks import Prices
from jointsapart.stock import Stock
from jointsapart.walls import Wall
from tests.helper import NOT_WHOLE, Case, slow_crack_price, slow_cracks
from tests.test_cracks import PRICES, SHORT, TWO, WALLS


class Within(Case):
    def test_against_all_cracks(self):
        for wall in WALLS:
            for prices in PRICES:
                told = {places: slow_crack_price(wall, prices, places) for places in slow_cracks(wall)}
                unlike = sorted(set(told.values()))
                for most in (-1, unlike[0] - 1, unlike[0], unlike[0] + 1, unlike[len(unlike) // 2], unlike[-1], 10 ** 30):
                    due = [places for places in told if told[places] <= most]
                    found = list(cracks_within(wall, prices, most))
                    self.assertEqual(found, due)
                    self.same_tuple(tuple(found), tuple(due))

    def test_one_after_the_other(self):
        wall = Wall(Stock((1, 2)), [(1,) * 400, (2,) * 200] * 30)
        found = list(islice(cracks_within(wall, Prices(1, 0), 60), 1000))
        self.assertEqual(found[0], (1,) * 60)
        self.assertEqual(found[998][58:], (3, 201))
        self.assertEqual(found, sorted(set(found)))
        # Here hardly any beginning can be gone on with.
        self.assertEqual(list(islice(cracks_within(wall, Prices(10 ** 6, 10 ** 6), 0), 3)), [(2,) * 60, (4,) * 60, (6,) * 60])
        self.assertEqual(list(cracks_within(wall, Prices(10 ** 6, 10 ** 6), -1)), [])

    def test_refused(self):
        for most in NOT_WHOLE:
            self.refused("BadMost", {}, lambda: list(cracks_within(WALLS[0], PRICES[0], most)))
        self.refused("TooShort", {}, lambda: list(cracks_within(SHORT, PRICES[0], None)))


class Counted(Case):
    def test_against_all_cracks(self):
        for wall in WALLS:
            for prices in PRICES:
                told = [slow_crack_price(wall, prices, places) for places in slow_cracks(wall)]
                self.same_tuple(count_cracks(wall, prices), (min(told), told.count(min(told))))

    def test_more_than_can_be_gone_through(self):
        wall = Wall(Stock((1, 2)), [(1,) * 400, (2,) * 200] * 30)
        self.assertEqual(count_cracks(wall, Prices(5, 1)), (0, 199))
        self.assertEqual(count_cracks(wall, Prices(0, 0)), (0, 399 ** 60))
        self.assertEqual(count_cracks(wall, Prices(1, 0)), (0, 399 ** 30 * 199 ** 30))
        self.assertEqual(count_cracks(Wall(TWO, [(2,)] * 60), Prices(2, 9)), (120, 1))
        # Each of 59 steps leads by 1 to either side or stays, in a bed of two places.
        self.assertEqual(count_cracks(Wall(Stock((3,)), [(3,)] * 60), Prices(1, 0)), (60, 2 ** 60))

    def test_refused(self):
        self.refused("TooShort", {}, count_cracks, SHORT, PRICES[0])
