"""[8.1] to [8.4]: prices, cracks, and the greatest floor numbers."""

from itertools import product

from jointsapart.cracks import Crack, Prices, crack_from, crack_price, floor_numbers, least_crack
from jointsapart.stock import Stock
from jointsapart.walls import Wall
from tests.helper import NOT_SEQUENCES, NOT_WHOLE, Case, slow_courses, slow_crack_price, slow_cracks

TWO = Stock((2, 3))
ONE = Stock((1, 2, 5), 2, 2)
BIG = 10 ** 6
# Right ones and others, of one course and of more, of length 2 and of more.
WALLS = [Wall(TWO, [(2, 3), (3, 2), (2, 3)]), Wall(TWO, [(2, 3), (2, 3)]), Wall(TWO, [(2,)]), Wall(TWO, [(2,), (2,), (2,)]),
         Wall(ONE, [(1, 1), (2,), (2,), (1, 1)]), Wall(ONE, [(5, 1), (1, 5), (2, 2, 2), (1, 1, 2, 2)]), Wall(ONE, [(1,) * 5]),
         Wall(ONE, [(5,), (5,), (2, 1, 2)]), Wall(TWO, [(2, 2, 3), (3, 2, 2)])]
PRICES = [Prices(3, 4), Prices(3, 1), Prices(3, 2), Prices(0, 0), Prices(0, 5), Prices(7, 0), Prices(BIG, BIG), Prices(1, BIG)]
SHORT = Wall(Stock((1,)), [(1,), (1,)])


class OfPrices(Case):
    def test_attributes(self):
        for brick in (0, 1, BIG):
            for bed in (0, 1, BIG):
                prices = Prices(brick, bed)
                self.assertEqual((prices.brick, prices.bed), (brick, bed))

    def test_refused(self):
        for wrong in (-1, BIG + 1, *NOT_WHOLE):
            self.refused("BadPrices", {"what": "brick"}, Prices, wrong, 1)
            self.refused("BadPrices", {"what": "brick"}, Prices, wrong, wrong)
            self.refused("BadPrices", {"what": "bed"}, Prices, 1, wrong)

    def test_equality(self):
        self.assertIs(Prices(1, 2) == Prices(1, 2), True)
        self.assertIs(Prices(1, 2) != Prices(1, 2), False)
        for other in (Prices(2, 1), Prices(1, 3), Prices(0, 2), Crack(1, 2), (1, 2), None):
            self.assertIs(Prices(1, 2) == other, False)
            self.assertIs(Prices(1, 2) != other, True)


class OfCracks(Case):
    def test_prices_in_the_words_of_the_document(self):
        for wall in WALLS:
            for prices in PRICES:
                for places in slow_cracks(wall):
                    due = slow_crack_price(wall, prices, places)
                    self.assertEqual(crack_price(wall, prices, places), due)
                    self.assertEqual(crack_price(wall, prices, list(places)), due)

    def test_example(self):
        wall = Wall(TWO, [(2, 3), (3, 2)] * 3)
        self.assertEqual(crack_price(wall, Prices(3, 4), (2,) * 6), 9)
        self.assertEqual(crack_price(wall, Prices(3, 1), (2, 3) * 3), 5)
        self.assertEqual(crack_price(wall, Prices(3, 2), (1, 3, 2, 4, 4, 1)), 3 + 4 + 2 + 4 + 3 + 3 + 6 + 3)

    def test_a_crack_that_is_refused(self):
        wall = WALLS[0]
        for places in ((), (1, 2), (1, 2, 3, 4), *NOT_SEQUENCES):
            self.refused("BadCrack", {"index": 0}, crack_price, wall, PRICES[0], places)
        for index in range(3):
            for wrong in (0, 5, -1, *NOT_WHOLE):
                places = [1, 4, 2]
                places[index] = wrong
                self.refused("BadCrack", {"index": index}, crack_price, wall, PRICES[0], [*places[:index + 1], *[0] * (2 - index)])

    def test_least_cracks(self):
        for wall in WALLS:
            for prices in PRICES:
                found = least_crack(wall, prices)
                self.assertIs(type(found), Crack)
                self.same_tuple(found.places, found.places)
                self.assertEqual(found.price, min(slow_crack_price(wall, prices, places) for places in slow_cracks(wall)))
                self.assertEqual(found.price, slow_crack_price(wall, prices, found.places))
                self.assertEqual(len(found.places), len(wall))

    def test_cracks_from_a_place(self):
        for wall in WALLS:
            for prices in PRICES:
                for place in range(1, wall.length):
                    found = crack_from(wall, prices, place)
                    self.assertIs(type(found), Crack)
                    self.same_tuple(found.places, found.places)
                    self.assertEqual(found.places[0], place)
                    self.assertEqual(found.price, slow_crack_price(wall, prices, found.places))
                    self.assertEqual(found.price, min(slow_crack_price(wall, prices, places) for places in slow_cracks(wall)
                                                      if places[0] == place))

    def test_a_place_that_is_refused(self):
        for wall in WALLS:
            for place in (0, wall.length, -1, *NOT_WHOLE):
                self.refused("NoNumber", {"number": place}, crack_from, wall, PRICES[0], place)

    def test_60_courses_of_length_400(self):
        wall = Wall(Stock((1, 2, 7)), [(2,) * 200, (1,) * 400, (7,) * 57 + (1,)] * 20)
        # At place 14 all three courses have a joint.
        self.assertEqual(least_crack(wall, Prices(5, 1)).price, 0)
        # One brick at place 3, and then 11 places on.
        self.assertEqual(crack_from(wall, Prices(5, 1), 3).price, 16)
        self.assertEqual(floor_numbers(wall, Prices(5, 1))[59][13], 0)
        self.assertEqual(least_crack(Wall(Stock((8,)), [(8,) * 50] * 60), Prices(BIG, BIG)).price, 0)
        whole = Wall(Stock((8,)), [(8,)] * 60)
        self.assertEqual(least_crack(whole, Prices(BIG, BIG)).price, 60 * BIG)

    def test_too_short_first(self):
        self.refused("TooShort", {}, crack_price, SHORT, PRICES[0], None)
        self.refused("TooShort", {}, least_crack, SHORT, PRICES[0])
        self.refused("TooShort", {}, crack_from, SHORT, PRICES[0], None)
        self.refused("TooShort", {}, floor_numbers, SHORT, PRICES[0])

    def test_results_keep_what_they_are_given(self):
        price, places = [], [1]
        self.assertIs(Crack(price, places).price, price)
        self.assertIs(Crack(price, places).places, places)

    def test_equality(self):
        self.assertIs(Crack(1, (2,)) == Crack(1, (2,)), True)
        self.assertIs(Crack(1, (2,)) != Crack(1, (2,)), False)
        for other in (Crack(2, (2,)), Crack(1, (3,)), Crack(1, [2]), Prices(1, 2), (1, (2,)), None):
            self.assertIs(Crack(1, (2,)) == other, False)
            self.assertIs(Crack(1, (2,)) != other, True)

    def test_nothing_is_changed(self):
        courses = [[2, 3], [3, 2]]
        wall = Wall(TWO, courses)
        places = [2, 3]
        found = least_crack(wall, PRICES[1])
        crack_price(wall, PRICES[1], places)
        courses[1] = [5]
        self.assertEqual((places, found), ([2, 3], least_crack(wall, PRICES[1])))
        self.assertEqual(PRICES[1], Prices(3, 1))


class OfFloorNumbers(Case):
    def test_greatest_floor_numbers(self):
        for wall in WALLS:
            for prices in PRICES:
                numbers = floor_numbers(wall, prices)
                due = []
                for height in range(1, len(wall) + 1):
                    part = Wall(wall.stock, wall.courses[:height])
                    leasts = {}
                    for places in slow_cracks(part):
                        price = slow_crack_price(part, prices, places)
                        leasts[places[-1]] = min(price, leasts.get(places[-1], price))
                    due.append(tuple(leasts[place] for place in range(1, wall.length)))
                self.same_tuple(numbers, tuple(due))

    def test_all_small_walls(self):
        """All walls of two courses of length 4: the least number on top is the price of the least crack."""
        stock = Stock((1, 2, 3))
        for courses in product(slow_courses(stock.bricks, 4), repeat=2):
            wall = Wall(stock, courses)
            for prices in (Prices(5, 2), Prices(2, 5)):
                self.assertEqual(min(floor_numbers(wall, prices)[-1]), least_crack(wall, prices).price)
                self.assertEqual(least_crack(wall, prices).price,
                                 min(slow_crack_price(wall, prices, places) for places in slow_cracks(wall)))
