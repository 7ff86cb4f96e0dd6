"""[8.11] and [8.12]: closed cracks, their least rate, and the judge."""

from fractions import Fraction
from itertools import product

from jointsapart.crackrates import CrackRate, crack_rate, rate_fault
from jointsapart.cracks import Prices
from jointsapart.everyheight import crack_calendar, round_crack
from jointsapart.rounds import Round, rotated
from jointsapart.stock import Stock
from tests.helper import NOT_SEQUENCES, NOT_WHOLE, Case, slow_joints
from tests.test_everyheight import FAR, LAID, MANY, PRICES, ROUNDS, SHORT, TWO

PRICE = Prices(3, 2)


def slow_rate(laid, prices, ring):
    """The rate of a closed crack, in the words of [8.11]."""
    courses = list(laid.courses) * (len(ring) // len(laid))
    through = sum(0 if place in slow_joints(course) else prices.brick for place, course in zip(ring, courses))
    along = sum(prices.bed * abs(ring[at] - ring[at - 1]) for at in range(len(ring)))
    return Fraction(through + along, len(ring))


class Rates(Case):
    def check(self, laid, prices, due=None):
        rate = crack_rate(laid, prices)
        self.assertIs(type(rate), CrackRate)
        self.same_tuple((rate.ratio, rate.ring, rate.numbers), (rate.ratio, rate.ring, rate.numbers))
        self.assertEqual(len(rate.ring) % len(laid), 0)
        self.assertGreater(len(rate.ring), 0)
        self.assertEqual(slow_rate(laid, prices, rate.ring), Fraction(*rate.ratio))
        self.assertEqual(Fraction(*rate.ratio).denominator, rate.ratio[1])
        self.assertEqual([len(row) for row in rate.numbers], [laid.length - 1] * len(laid))
        top, bottom = rate.ratio
        for number, course in enumerate(laid.courses):
            for at, own in enumerate(rate.numbers[number]):
                cost = 0 if at + 1 in slow_joints(course) else prices.brick
                for by, beneath in enumerate(rate.numbers[number - 1]):
                    self.assertLessEqual(own, beneath + bottom * (prices.bed * abs(at - by) + cost) - top)
        self.assertIs(rate_fault(laid, prices, rate), None)
        if due is not None:
            self.assertEqual(rate.ratio, due)

    def test_rounds(self):
        for laid in [*ROUNDS, MANY]:
            for prices in PRICES:
                self.check(laid, prices)

    def test_examples(self):
        self.check(LAID, Prices(3, 4), (3, 2))
        self.check(LAID, Prices(3, 1), (1, 1))
        self.check(LAID, Prices(3, 2), (3, 2))
        self.check(LAID, Prices(0, 9), (0, 1))
        self.check(Round(Stock((2,), 1, 2), ((2,),) * 3), Prices(10 ** 6, 0), (10 ** 6, 1))

    def test_no_closed_crack_of_up_to_three_turns_is_cheaper(self):
        for laid in (LAID, ROUNDS[1], ROUNDS[3]):
            for prices in PRICES:
                least = min(slow_rate(laid, prices, ring) for turns in ((1, 2, 3) if laid.length < 4 else (1, 2))
                            for ring in product(range(1, laid.length), repeat=turns * len(laid)))
                self.assertEqual(crack_rate(laid, prices).ratio, (least.numerator, least.denominator))

    def test_what_the_calendar_tells(self):
        for laid in ROUNDS:
            for prices in PRICES:
                calendar = crack_calendar(laid, prices)
                due = Fraction(calendar.growth, calendar.period)
                self.assertEqual(crack_rate(laid, prices).ratio, (due.numerator, due.denominator))
        # Here the calendar is too wide.
        prices = Prices(10 ** 6, 499999)
        self.check(MANY, prices, (666666, 1))
        self.assertEqual(round_crack(MANY, prices, FAR) - round_crack(MANY, prices, FAR - 3), 3 * 666666)

    def test_a_round_begun_elsewhere_has_the_same_ratio(self):
        for laid in ROUNDS:
            for prices in PRICES[:3]:
                self.assertEqual(crack_rate(rotated(laid, 1), prices).ratio, crack_rate(laid, prices).ratio)

    def test_too_short(self):
        self.refused("TooShort", {}, crack_rate, SHORT, PRICE)
        self.refused("TooShort", {}, rate_fault, SHORT, PRICE, CrackRate(None, None, None))

    def test_results_keep_what_they_are_given(self):
        ratio, ring, numbers = [], [], []
        rate = CrackRate(ratio, ring, numbers)
        self.assertIs(rate.ratio, ratio)
        self.assertIs(rate.ring, ring)
        self.assertIs(rate.numbers, numbers)


class Judged(Case):
    GOOD = ((3, 2), (2, 2), ((0, 0, 0, 0), (0, 0, 0, 0)))

    def setUp(self):
        rate = crack_rate(LAID, PRICE)
        self.ratio, self.ring, self.numbers = rate.ratio, rate.ring, rate.numbers

    def check(self, word, ratio=None, ring=None, numbers=None, laid=LAID, prices=PRICE):
        rate = CrackRate(ratio or self.ratio, ring or self.ring, numbers or self.numbers)
        self.assertEqual(rate_fault(laid, prices, rate), word)

    def test_right_rates_that_the_program_does_not_make(self):
        # A ring gone through twice, or another one of this rate, begun at the second course, too.
        for ring in (self.ring, self.ring * 2, self.ring * 7, [2, 2], (3, 3), (3, 3) * 4):
            self.check(None, ring=ring)
        self.check(None, numbers=[[number + 9 for number in row] for row in self.numbers])
        self.check(None, numbers=[[number - 10 ** 30 for number in row] for row in self.numbers])
        # With these prices the crack that goes from joint to joint is as cheap.
        laid = Round(TWO, ((2, 3), (3, 2)))
        rate = crack_rate(laid, Prices(2, 1))
        self.assertEqual(rate.ratio, (1, 1))
        for ring in ((2, 3), (2, 2), (3, 3), (2, 3, 2, 2), (2, 2, 3, 3, 2, 3)):
            due = slow_rate(laid, Prices(2, 1), ring)
            word = rate_fault(laid, Prices(2, 1), CrackRate(rate.ratio, ring, rate.numbers))
            self.assertEqual(word, None if due == 1 else "ratio")

    def test_ring(self):
        for ring in ((2,), (2, 2, 2), (0, 2), (2, 5), (2, True), (2, None), ("2", 2), *NOT_SEQUENCES[1:]):
            self.check("ring", ring=ring)
        for ring in ((), [], None):
            self.assertEqual(rate_fault(LAID, PRICE, CrackRate(self.ratio, ring, self.numbers)), "ring")

    def test_ratio(self):
        for ratio in ((6, 4), (3, 1), (1, 2), (-3, -2), 3, [3, 2], (3, 2, 1), (3,), (3, True), "3/2"):
            self.check("ratio", ratio=ratio)
        self.check("ratio", ring=(1, 1))
        self.check("ratio", ring=(2, 3, 2, 2, 2, 2))
        self.check("ratio", ratio=(True, 1), ring=(2, 3), prices=Prices(3, 1))

    def test_numbers(self):
        rows = self.numbers
        for numbers in (rows[:1], (*rows, rows[0]), (rows[0], rows[1][:3]), (rows[0], (*rows[1], 0)), (rows[0], None), 5, "ab",
                        *[(rows[0], (*rows[1][:3], wrong)) for wrong in NOT_WHOLE]):
            self.check("numbers", numbers=numbers)

    def test_next(self):
        """Numbers with one so great that only it is wrong; the last course counts as beneath the first one."""
        for laid in (LAID, MANY, ROUNDS[1], ROUNDS[3]):
            for prices in PRICES:
                rate = crack_rate(laid, prices)
                top, bottom = rate.ratio
                for number, course in enumerate(laid.courses):
                    for at in range(laid.length - 1):
                        cost = 0 if at + 1 in slow_joints(course) else prices.brick
                        bound = min(beneath + bottom * (prices.bed * abs(at - by) + cost) - top
                                    for by, beneath in enumerate(rate.numbers[number - 1]))
                        rows = [list(row) for row in rate.numbers]
                        rows[number][at] = bound + 1
                        self.assertEqual(rate_fault(laid, prices, CrackRate(rate.ratio, rate.ring, rows)), "next")

    def test_a_ring_that_is_not_the_cheapest_bears_no_numbers(self):
        for ring in product(range(1, 5), repeat=2):
            rate = slow_rate(LAID, PRICE, ring)
            if rate > Fraction(3, 2):
                ratio = (rate.numerator, rate.denominator)
                for numbers in (self.numbers, ((0,) * 4,) * 2, ((3, 2, 1, 0), (0, 0, 0, 5))):
                    self.check("next", ratio=ratio, ring=ring, numbers=numbers)

    def test_order_of_the_words(self):
        self.assertEqual(rate_fault(LAID, PRICE, CrackRate(None, (9, 9), None)), "ring")
        self.assertEqual(rate_fault(LAID, PRICE, CrackRate(None, self.ring, None)), "ratio")
        self.assertEqual(rate_fault(LAID, PRICE, CrackRate(self.ratio, self.ring, None)), "numbers")
