"""[8.7] to [8.10]: the least price of a crack for every height."""

from itertools import permutations, product

from jointsapart.crackrates import crack_rate
from jointsapart.cracks import Prices, least_crack
from jointsapart.everyheight import CrackCalendar, crack_at, crack_calendar, round_crack, stays_stronger
from jointsapart.rounds import Round, all_rounds, wall_from
from jointsapart.stock import Stock
from jointsapart.walls import Wall
from tests.helper import NOT_SEQUENCES, NOT_WHOLE, Case

TWO = Stock((2, 3))
BIG = 10 ** 6
FAR = 10 ** 30
LAID = Round(TWO, ((2, 3), (3, 2)))
SHORT = Round(Stock((1,)), ((1,), (1,)))
PRICES = [Prices(3, 4), Prices(3, 1), Prices(3, 2), Prices(0, 0), Prices(0, 5), Prices(7, 0), Prices(BIG, BIG), Prices(7, 3)]


def some_rounds():
    """Rounds of both reaches, also of one brick alone, in several orders, of lengths from 2 to 12."""
    found = [LAID, Round(Stock((2,)), ((2,), (2,))), Round(Stock((2,), 1, 2), ((2,),) * 3),
             Round(Stock((2, 4), 1, 2), ((4,), (2, 2), (4,)))]
    for stock, length in ((TWO, 7), (Stock((1, 2, 3), 1, 2), 6), (Stock((1, 3, 5), 2), 9), (TWO, 12), (Stock((2, 5), 1, 2), 12)):
        rounds = list(all_rounds(stock, length))
        for laid in rounds[::max(1, len(rounds) // 3)][:3]:
            found.extend(Round(stock, courses) for courses in list(permutations(laid.courses))[::2])
    return found


ROUNDS = some_rounds()
# With a bed of little less than half a brick the cheapest way in the long run is the cheapest late, at far places.
MANY = Round(Stock((1, 4, 8), 1, 2), ((8, 4), (4, 8), (1, 4, 1, 4, 1, 1)))


def slow_prices(laid, prices, many):
    """The least prices of the heights 1 to `many`, course by course."""
    places = range(1, laid.length)
    found = []
    row = None
    for number in range(many):
        course = laid.courses[number % len(laid)]
        joints = {sum(course[:at]) for at in range(1, len(course))}
        costs = {place: 0 if place in joints else prices.brick for place in places}
        if row is not None:
            costs = {place: costs[place] + min(row[other] + prices.bed * abs(place - other) for other in places)
                     for place in places}
        row = costs
        found.append(min(row.values()))
    return found


class Heights(Case):
    def test_against_the_walls(self):
        for laid in ROUNDS:
            for prices in PRICES[:3]:
                due = slow_prices(laid, prices, 60)
                for height in (*range(1, 12), 35, 59, 60):
                    self.assertEqual(least_crack(wall_from(laid, height), prices).price, due[height - 1])
                    self.assertEqual(round_crack(laid, prices, height), due[height - 1])

    def test_course_by_course(self):
        for laid in ROUNDS:
            for prices in PRICES:
                due = slow_prices(laid, prices, 90)
                for height in (1, 2, 3, 4, 17, 64, 65, 90):
                    self.assertEqual(round_crack(laid, prices, height), due[height - 1])

    def test_far_heights(self):
        for laid in ROUNDS:
            for prices in PRICES:
                calendar = crack_calendar(laid, prices)
                for height in (FAR, FAR - 1, 10 ** 20 + 7):
                    self.assertEqual(round_crack(laid, prices, height), crack_at(calendar, height))
        self.assertEqual(round_crack(LAID, Prices(3, 4), FAR), 3 * FAR // 2)
        self.assertEqual(round_crack(LAID, Prices(3, 1), FAR), FAR - 1)

    def test_where_the_calendar_is_wide(self):
        prices = Prices(BIG, BIG // 2 - 1)
        self.refused("Wide", {"most": 4000}, crack_calendar, MANY, prices)
        for height, due in ((1, 0), (2, BIG), (1000, None), (2000, None)):
            self.assertEqual(round_crack(MANY, prices, height), slow_prices(MANY, prices, height)[-1] if due is None else due)
        # In the long run a turn of three courses costs 2 less than two bricks.
        for small in (100, 200, 1000):
            far = crack_at(crack_calendar(MANY, Prices(small, small // 2 - 1)), FAR)
            self.assertEqual(far, small // 2 + 1 + FAR // 3 * (2 * small - 2))
        self.assertEqual(round_crack(MANY, prices, FAR), BIG // 2 + 1 + FAR // 3 * (2 * BIG - 2))

    def test_refused(self):
        for height in (0, -1, FAR + 1, *NOT_WHOLE):
            self.refused("BadHeight", {}, round_crack, LAID, PRICES[0], height)
            self.refused("BadHeight", {}, crack_at, CrackCalendar((0,), 1, 1), height)
        self.refused("TooShort", {}, round_crack, SHORT, PRICES[0], None)
        self.refused("TooShort", {}, crack_calendar, SHORT, PRICES[0], most=None)

    def test_a_crack_costs_at_least_what_the_rate_tells(self):
        for laid in ROUNDS:
            for prices in PRICES:
                top, bottom = crack_rate(laid, prices).ratio
                less = prices.bed * (laid.length - 2) + prices.brick * (len(laid) - 1)
                for height in (1, 2, 3, 10, 10 ** 9, FAR):
                    self.assertGreaterEqual(bottom * (round_crack(laid, prices, height) + less), height * top)


class Calendars(Case):
    def test_attributes_and_prices(self):
        firsts = [0, 3, 3]
        calendar = CrackCalendar(firsts, 2, 3)
        firsts.append(9)
        self.same_tuple(calendar.firsts, (0, 3, 3))
        self.assertEqual((calendar.period, calendar.growth), (2, 3))
        self.assertEqual([crack_at(calendar, height) for height in range(1, 9)], [0, 3, 3, 6, 6, 9, 9, 12])
        self.assertEqual(crack_at(CrackCalendar((5, 6), 2, 0), FAR), 6)
        self.assertEqual(crack_at(CrackCalendar((5, 6), 2, 0), FAR - 1), 5)
        self.assertEqual(crack_at(CrackCalendar((5, 6), 1, 10 ** 299), FAR), 6 + (FAR - 2) * 10 ** 299)

    def test_edges(self):
        far = CrackCalendar(tuple(range(10000)), 10000, 7)
        self.assertEqual(crack_at(far, 10000), 9999)
        self.assertEqual(crack_at(far, 10001), 7)
        self.assertEqual(crack_at(far, 30000), 9999 + 14)
        self.assertEqual(CrackCalendar([0], 1, 0).firsts, (0,))

    def test_refused_in_order(self):
        for firsts in ((), (0,) * 10001, *NOT_SEQUENCES, *[(0, wrong) for wrong in (-1, *NOT_WHOLE)]):
            self.refused("BadCrackCalendar", {"what": "firsts"}, CrackCalendar, firsts, None, None)
        for period in (0, 3, -1, *NOT_WHOLE):
            self.refused("BadCrackCalendar", {"what": "period"}, CrackCalendar, (0, 1), period, None)
        for growth in (-1, *NOT_WHOLE):
            self.refused("BadCrackCalendar", {"what": "growth"}, CrackCalendar, (0, 1), 2, growth)

    def test_equality(self):
        calendar = CrackCalendar((0, 1), 1, 2)
        self.assertIs(calendar == CrackCalendar([0, 1], 1, 2), True)
        self.assertIs(calendar != CrackCalendar([0, 1], 1, 2), False)
        for other in (CrackCalendar((0, 1, 3), 1, 2), CrackCalendar((0, 1), 2, 2), CrackCalendar((0, 1), 1, 3), ((0, 1), 1, 2), None):
            self.assertIs(calendar == other, False)
            self.assertIs(calendar != other, True)


class PlainForm(Case):
    def check(self, laid, prices):
        calendar = crack_calendar(laid, prices)
        self.assertIs(type(calendar), CrackCalendar)
        many, period = len(calendar.firsts), calendar.period
        far = 3 * many + 4 * period + 30
        found = slow_prices(laid, prices, far)
        self.assertEqual([crack_at(calendar, height) for height in range(1, far + 1)], found)
        # No lesser period from any place on that could be the one of all heights, and no fewer firsts.
        for lesser in range(1, period):
            rises = {found[at + lesser] - found[at] for at in range(many, far - lesser)}
            self.assertGreater(len(rises), 1, (laid.courses, lesser))
        if many > period:
            self.assertNotEqual(found[many - 1], found[many - 1 - period] + calendar.growth)
        top, bottom = crack_rate(laid, prices).ratio
        self.assertEqual(calendar.growth * bottom, top * period)

    def test_rounds(self):
        for laid in ROUNDS:
            for prices in PRICES:
                self.check(laid, prices)

    def test_examples(self):
        self.assertEqual(crack_calendar(LAID, Prices(3, 4)), CrackCalendar((0, 3), 2, 3))
        self.assertEqual(crack_calendar(LAID, Prices(3, 1)), CrackCalendar((0,), 1, 1))
        self.assertEqual(crack_calendar(LAID, Prices(3, 2)), CrackCalendar((0, 2), 2, 3))
        self.assertEqual([round_crack(LAID, Prices(3, 2), height) for height in range(1, 7)], [0, 2, 3, 5, 6, 8])
        self.assertEqual(crack_calendar(LAID, Prices(0, 0)), CrackCalendar((0,), 1, 0))

    def slow_profiles(self, laid, prices):
        """How many unlike profiles the courses have, in the words of [8.9]."""
        seen = set()
        row = None
        for number in range(10 ** 4):
            course = laid.courses[number % len(laid)]
            joints = {sum(course[:at]) for at in range(1, len(course))}
            costs = [0 if place in joints else prices.brick for place in range(1, laid.length)]
            if row is not None:
                costs = [cost + min(other + prices.bed * abs(at - by) for by, other in enumerate(row)) for at, cost in enumerate(costs)]
            row = [cost - min(costs) for cost in costs]
            if (number % len(laid), *row) in seen:
                return len(seen)
            seen.add((number % len(laid), *row))

    def test_most(self):
        for laid in ROUNDS[::2]:
            for prices in PRICES:
                many = self.slow_profiles(laid, prices)
                due = crack_calendar(laid, prices)
                for most in (many, many + 1, 4000):
                    self.assertEqual(crack_calendar(laid, prices, most=most), due)
                for most in {1, many - 1} - {0, many}:
                    self.refused("Wide", {"most": most}, crack_calendar, laid, prices, most=most)
        for most in (0, 4001, -1, *NOT_WHOLE):
            self.refused("BadMost", {}, crack_calendar, LAID, PRICES[0], most=most)

    def test_many_firsts(self):
        for brick in (30, 200, 1000):
            self.check(MANY, Prices(brick, brick // 2 - 1))
        calendar = crack_calendar(MANY, Prices(1000, 499))
        self.assertEqual(len(calendar.firsts), 754)
        self.assertEqual((calendar.period, calendar.growth), (3, 1998))


class Stronger(Case):
    def slow(self, one, other, far):
        """The least height from which on the one is greater up to a far height, or None."""
        height = far
        while height > 0 and crack_at(one, height) > crack_at(other, height):
            height -= 1
        # What is not so over the upper half is not so for ever.
        return None if height > far // 2 else height + 1

    def test_small_calendars(self):
        calendars = [CrackCalendar(firsts, period, growth) for firsts in ((0,), (3,), (0, 3), (2, 2), (0, 1, 9), (4, 0, 1))
                     for period in range(1, len(firsts) + 1) for growth in (0, 1, 2, 3)]
        for one, other in product(calendars, repeat=2):
            due = self.slow(one, other, 150)
            self.assertEqual(stays_stronger(one, other), due)

    def test_examples(self):
        one, other, third = [crack_calendar(LAID, prices) for prices in PRICES[:3]]
        self.assertEqual(stays_stronger(CrackCalendar((0,), 1, 2), one), 5)
        self.assertIs(stays_stronger(one, third), None)
        self.assertIs(stays_stronger(third, one), None)
        self.assertEqual(stays_stronger(one, other), 2)

    def test_both_directions(self):
        """Equal ones, and two that are stronger by turns for ever."""
        one = CrackCalendar((0, 3), 2, 3)
        self.assertIs(stays_stronger(one, one), None)
        self.assertIs(stays_stronger(one, CrackCalendar((0, 3, 3, 6), 2, 3)), None)
        other = CrackCalendar((1, 2), 2, 3)
        self.assertIs(stays_stronger(one, other), None)
        self.assertIs(stays_stronger(other, one), None)

    def test_heights_of_many_figures(self):
        slow = CrackCalendar((10 ** 299,), 1, 1)
        self.assertEqual(stays_stronger(CrackCalendar((0,), 1, 2), slow), 10 ** 299 + 2)
        self.assertIs(stays_stronger(slow, CrackCalendar((0,), 1, 2)), None)
        # 100003 and 100000 in 7 and 11 courses: the lead grows in each 77 courses alone.
        one = CrackCalendar((0,) * 7, 7, 11)
        other = CrackCalendar((10 ** 40,) * 11, 11, 17)
        height = stays_stronger(one, other)
        self.assertGreater(height, 10 ** 39)

        def lead(at):
            return -(-(at - 7) // 7) * 11 - 10 ** 40 - max(0, -(-(at - 11) // 11)) * 17
        self.assertLessEqual(lead(height - 1), 0)
        self.assertGreater(min(lead(at) for at in range(height, height + 200)), 0)

    def test_unlike_periods(self):
        one = CrackCalendar(tuple(range(316)), 316, 316)
        other = CrackCalendar(tuple(range(1, 314)) + (500,), 313, 313)
        self.assertIs(stays_stronger(one, other), None)
        self.assertEqual(stays_stronger(CrackCalendar(tuple(range(2, 318)), 316, 316), CrackCalendar(tuple(range(313)), 313, 313)), 1)
        self.assertEqual(stays_stronger(CrackCalendar((0, 0, 0, 5), 1, 1), CrackCalendar((0, 0, 1), 1, 1)), 4)

    def test_walls(self):
        """The prices of two rounds, height by height."""
        for laid in ROUNDS[4::3]:
            for other in ROUNDS[5::4]:
                one, two = crack_calendar(laid, Prices(3, 2)), crack_calendar(other, Prices(3, 2))
                self.assertEqual(stays_stronger(one, two), self.slow(one, two, 400))


class NothingIsChanged(Case):
    def test_later_changes(self):
        courses = [[2, 3], [3, 2]]
        laid = Round(TWO, courses)
        calendar = crack_calendar(laid, Prices(3, 4))
        courses[0].append(9)
        self.assertEqual(calendar, crack_calendar(laid, Prices(3, 4)))
        self.assertEqual(least_crack(Wall(TWO, laid.courses), Prices(3, 4)).price, 3)
