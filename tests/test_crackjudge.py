"""[8.3] to [8.5]: the judges of floor numbers and cracks."""

from jointsapart.crackjudge import crack_fault, floor_bound, floor_fault, least_fault
from jointsapart.cracks import Crack, Prices, floor_numbers, least_crack
from jointsapart.walls import Wall
from tests.helper import NOT_SEQUENCES, NOT_WHOLE, Case, slow_crack_price, slow_cracks
from tests.test_cracks import PRICES, SHORT, TWO, WALLS

WALL = WALLS[0]
PRICE = Prices(3, 2)


def changed(numbers, course, at, by):
    rows = [list(row) for row in numbers]
    rows[course][at] += by
    return rows


class OfFloorNumbers(Case):
    def test_right_numbers(self):
        for wall in WALLS:
            for prices in PRICES:
                numbers = floor_numbers(wall, prices)
                self.assertIs(floor_fault(wall, prices, numbers), None)
                self.assertIs(floor_fault(wall, prices, [list(row) for row in numbers]), None)
                # Numbers that the program does not make: all lessened by the same, and far below 0.
                self.assertIs(floor_fault(wall, prices, [[number - 7 for number in row] for row in numbers]), None)
                self.assertIs(floor_fault(wall, prices, [[-10 ** 40 * (at + 1)] * (wall.length - 1)
                                                         for at in range(len(wall))]), None)

    def test_one_number_lowered(self):
        """A number lowered in the topmost course does no harm, one lower down binds those above."""
        for wall in WALLS:
            for prices in PRICES:
                numbers = floor_numbers(wall, prices)
                for at in range(wall.length - 1):
                    self.assertIs(floor_fault(wall, prices, changed(numbers, len(wall) - 1, at, -1)), None)

    def test_one_number_too_great(self):
        for wall in WALLS:
            for prices in PRICES:
                numbers = floor_numbers(wall, prices)
                for course in range(len(wall)):
                    for at in range(wall.length - 1):
                        self.assertEqual(floor_fault(wall, prices, changed(numbers, course, at, 1)),
                                         "next" if course else "first")

    def test_each_number_beneath_counts(self):
        wall = Wall(TWO, [(3, 2), (2, 3)])
        # A number far below all others beneath binds each place above it.
        lowered = [[3, -3, 0, 3], [2, -3, 2, 4]]
        self.assertIs(floor_fault(wall, Prices(3, 2), lowered), None)
        for at in range(4):
            self.assertEqual(floor_fault(wall, Prices(3, 2), changed(lowered, 1, at, 1)), "next")

    def test_rows(self):
        numbers = floor_numbers(WALL, PRICE)
        for wrong in ((), numbers[:2], (*numbers, numbers[0]), *NOT_SEQUENCES, (numbers[0], None, numbers[2]),
                      (numbers[0], numbers[1][:3], numbers[2]), (numbers[0], numbers[1], (*numbers[2], 0)), (1, 2, 3)):
            self.assertEqual(floor_fault(WALL, PRICE, wrong), "rows")
        for wrong in NOT_WHOLE:
            for course in range(3):
                rows = [list(row) for row in numbers]
                rows[course][2] = wrong
                self.assertEqual(floor_fault(WALL, PRICE, rows), "rows")

    def test_order_of_the_words(self):
        numbers = floor_numbers(WALL, PRICE)
        wrong = changed(changed(numbers, 0, 1, 1), 2, 1, 9)
        self.assertEqual(floor_fault(WALL, PRICE, wrong), "first")
        wrong[2][3] = None
        self.assertEqual(floor_fault(WALL, PRICE, wrong), "rows")

    def test_bound(self):
        self.assertEqual(floor_bound(((1, 2), (5, -4), (7, 3))), 3)
        self.assertEqual(floor_bound([[-1]]), -1)
        for wall in WALLS:
            for prices in PRICES:
                numbers = floor_numbers(wall, prices)
                self.assertEqual(floor_bound(numbers), least_crack(wall, prices).price)

    def test_each_crack_costs_at_least_the_number_at_its_top(self):
        for wall in WALLS:
            for prices in PRICES:
                numbers = [[number - 1 for number in row] for row in floor_numbers(wall, prices)]
                self.assertIs(floor_fault(wall, prices, numbers), None)
                for places in slow_cracks(wall):
                    self.assertGreater(slow_crack_price(wall, prices, places), numbers[-1][places[-1] - 1])


class OfCracks(Case):
    def test_right_cracks(self):
        for places in slow_cracks(WALL):
            price = slow_crack_price(WALL, PRICE, places)
            self.assertIs(crack_fault(WALL, PRICE, Crack(price, places)), None)
            self.assertIs(crack_fault(WALL, PRICE, Crack(price, list(places))), None)
            for wrong in (price - 1, price + 1, -price - 1, None, "3", (price, 1)):
                self.assertEqual(crack_fault(WALL, PRICE, Crack(wrong, places)), "price")

    def test_places(self):
        for places in ((), (1, 2), (1, 2, 3, 4), (0, 1, 2), (1, 5, 2), (1, 2, True), (1, None, 2), *NOT_SEQUENCES):
            self.assertEqual(crack_fault(WALL, PRICE, Crack(None, places)), "places")

    def test_truths_are_no_prices(self):
        wall = Wall(TWO, [(2,), (2,)])
        self.assertEqual(crack_fault(wall, Prices(0, 0), Crack(False, (1, 1))), "price")
        self.assertIs(crack_fault(wall, Prices(0, 0), Crack(0, (1, 1))), None)
        wall = Wall(TWO, [(2,)])
        self.assertEqual(crack_fault(wall, Prices(1, 0), Crack(True, (1,))), "price")

    def test_shown_exactly_if_none_is_cheaper(self):
        for wall in WALLS:
            for prices in PRICES:
                numbers = floor_numbers(wall, prices)
                least = min(slow_crack_price(wall, prices, places) for places in slow_cracks(wall))
                for places in slow_cracks(wall):
                    price = slow_crack_price(wall, prices, places)
                    self.assertEqual(least_fault(wall, prices, Crack(price, places), numbers),
                                     None if price == least else "bound")

    def test_lowered_numbers_show_less(self):
        numbers = [[number - 1 for number in row] for row in floor_numbers(WALL, PRICE)]
        self.assertEqual(least_fault(WALL, PRICE, least_crack(WALL, PRICE), numbers), "bound")

    def test_order_of_the_words(self):
        numbers = floor_numbers(WALL, PRICE)
        crack = least_crack(WALL, PRICE)
        self.assertEqual(least_fault(WALL, PRICE, Crack(99, (0, 1, 2)), None), "places")
        self.assertEqual(least_fault(WALL, PRICE, Crack(99, crack.places), None), "price")
        self.assertEqual(least_fault(WALL, PRICE, crack, None), "rows")
        self.assertEqual(least_fault(WALL, PRICE, crack, changed(numbers, 0, 0, 1)), "first")
        self.assertEqual(least_fault(WALL, PRICE, crack, changed(numbers, 1, 0, 1)), "next")
        self.assertEqual(least_fault(WALL, PRICE, crack, changed(numbers, 2, 1, -9)), "bound")
        self.assertIs(least_fault(WALL, PRICE, crack, numbers), None)

    def test_too_short_first(self):
        self.refused("TooShort", {}, floor_fault, SHORT, PRICE, None)
        self.refused("TooShort", {}, crack_fault, SHORT, PRICE, Crack(None, None))
        self.refused("TooShort", {}, least_fault, SHORT, PRICE, Crack(None, None), None)
