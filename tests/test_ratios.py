"""[0.3], [1.1] to [1.3]: whole numbers, ratios and their texts."""

from fractions import Fraction

from jointsapart.ratios import (
    ONE, ZERO, as_tuples, compare, greatest_of, is_ratio, is_whole, least_of, make_ratio, minus, negative,
    over, plus, ratio_of, ratio_text, sum_of, times)
from tests.helper import NOT_SEQUENCES, NOT_WHOLE, Case

SOME = [(top, bottom) for top in range(-7, 8) for bottom in range(1, 7)
        if Fraction(top, bottom).denominator == bottom]
MANY_FIGURES = 10 ** 299 + 7


def fraction(ratio):
    return Fraction(*ratio)


class Kinds(Case):
    def test_whole_numbers(self):
        for thing in (0, 1, -1, 10 ** 400, -10 ** 400):
            self.assertIs(is_whole(thing), True)
        for thing in NOT_WHOLE:
            self.assertIs(is_whole(thing), False)

    def test_bounds_are_included(self):
        told = [is_whole(number, 2, 4) for number in range(1, 6)]
        self.assertEqual(told, [False, True, True, True, False])
        self.assertTrue(all(type(truth) is bool for truth in told))

    def test_a_bound_that_is_none_does_not_bind(self):
        self.assertIs(is_whole(-5, None, 4), True)
        self.assertIs(is_whole(5, None, 4), False)
        self.assertIs(is_whole(5, 2, None), True)
        self.assertIs(is_whole(1, 2, None), False)
        self.assertIs(is_whole(-1, low=0), False)
        self.assertIs(is_whole(1, high=0), False)
        self.assertIs(is_whole(0, 0, 0), True)

    def test_wrong_kinds_within_bounds(self):
        for thing in NOT_WHOLE:
            self.assertIs(is_whole(thing, 0, 5), False)

    def test_ratios(self):
        for thing in ((0, 1), (1, 1), (-7, 2), (3, 10 ** 400), ZERO, ONE):
            self.assertIs(is_ratio(thing), True)

    def test_what_is_no_ratio(self):
        wrong = [(0, 2), (2, 4), (1, -1), (1, 0), (0, 0), (1, -2), (1,), (1, 2, 3), (), [1, 2], 1, None,
                 "1/2", (True, 1), (1, True), (False, 1), (1.0, 1), (1, 2.0), ("1", 2), (None, 1), Fraction(1, 2)]
        for thing in wrong:
            self.assertIs(is_ratio(thing), False, thing)

    def test_values(self):
        self.same_tuple(ZERO, (0, 1))
        self.same_tuple(ONE, (1, 1))


class Made(Case):
    def test_lowest_terms_and_a_bottom_above_0(self):
        for top in range(-12, 13):
            for bottom in (*range(-12, 0), *range(1, 13)):
                made = make_ratio(top, bottom)
                self.assertEqual(fraction(made), Fraction(top, bottom))
                self.assertIs(is_ratio(made), True)
        self.assertEqual(make_ratio(0, -5), (0, 1))
        self.assertEqual(make_ratio(7), (7, 1))
        self.assertEqual(make_ratio(6 * MANY_FIGURES, -4 * MANY_FIGURES), (-3, 2))

    def test_refusals_in_order(self):
        for thing in NOT_WHOLE:
            self.refused("BadRatio", {"what": "top"}, make_ratio, thing)
            self.refused("BadRatio", {"what": "top"}, make_ratio, thing, 0)
            self.refused("BadRatio", {"what": "bottom"}, make_ratio, 3, thing)
        self.refused("BadRatio", {"what": "bottom"}, make_ratio, 3, 0)


class Reckoning(Case):
    def test_against_fractions(self):
        for one in SOME:
            self.assertEqual(fraction(negative(one)), -fraction(one))
            self.assertIs(is_ratio(negative(one)), True)
            for other in SOME:
                self.check_couple(one, other)

    def check_couple(self, one, other):
        left, right = fraction(one), fraction(other)
        for call, due in ((plus, left + right), (minus, left - right), (times, left * right)):
            told = call(one, other)
            self.assertEqual(fraction(told), due)
            self.assertIs(is_ratio(told), True)
        self.assertEqual(compare(one, other), (left > right) - (left < right))
        if right:
            told = over(one, other)
            self.assertEqual(fraction(told), left / right)
            self.assertIs(is_ratio(told), True)

    def test_over_nought(self):
        self.refused("BadRatio", {"what": "zero"}, over, (1, 2), ZERO)
        self.refused("BadRatio", {"what": "zero"}, over, ZERO, ZERO)

    def test_compare_returns_whole_numbers(self):
        for told in (compare(ONE, ZERO), compare(ZERO, ONE), compare(ONE, ONE)):
            self.assertIs(type(told), int)

    def test_many_figures(self):
        great = (MANY_FIGURES, 2)
        self.assertEqual(plus(great, (1, 2)), ((MANY_FIGURES + 1) // 2, 1))
        self.assertEqual(over(great, great), ONE)
        self.assertEqual(compare((MANY_FIGURES + 1, MANY_FIGURES), ONE), 1)

    def test_sums(self):
        self.assertEqual(sum_of([]), ZERO)
        self.assertEqual(sum_of(()), ZERO)
        self.assertEqual(sum_of([(1, 2), (1, 3), (1, 6)]), ONE)
        self.assertEqual(fraction(sum_of(tuple(SOME))), sum(map(fraction, SOME)))

    def test_least_and_greatest(self):
        ratios = [(1, 2), (-1, 3), (2, 3), (-1, 2), (3, 5)]
        for row in (ratios, tuple(ratios), ratios[::-1]):
            self.assertEqual(least_of(row), (-1, 2))
            self.assertEqual(greatest_of(row), (2, 3))
        self.assertEqual(least_of([(5, 7)]), (5, 7))
        self.assertEqual(greatest_of(((5, 7),)), (5, 7))
        self.assertEqual(ratios, [(1, 2), (-1, 3), (2, 3), (-1, 2), (3, 5)])


class Texts(Case):
    def test_written(self):
        for ratio, text in (((3, 1), "3"), ((0, 1), "0"), ((-7, 2), "-7/2"), ((-4, 1), "-4"), ((1, 10), "1/10")):
            self.assertEqual(ratio_text(ratio), text)

    def test_read_back(self):
        for ratio in SOME:
            self.same_tuple(ratio_of(ratio_text(ratio)), ratio)

    def test_300_figures_are_let(self):
        most = int("9" * 300)
        for ratio in ((most, 1), (-most, 1), (1, most), (-most, most - 1)):
            self.assertEqual(ratio_of(ratio_text(ratio)), ratio)

    def test_301_figures_are_refused(self):
        for text in ("1" + "0" * 300, "-1" + "0" * 300, "1/1" + "0" * 300, "-1/1" + "0" * 300, "9" * 5000,
                     "1/" + "9" * 5000):
            self.refused("BadRatio", {"what": "text"}, ratio_of, text)

    def test_other_texts_are_refused(self):
        for text in ("", "-", "/", "1/", "/2", "-/2", "3/1", "2/4", "0/2", "0/1", "-0", "+1", "01", "-01", "1/02", "1/0",
                     "1/-2", "--1", " 1", "1 ", "1\n", "1 /2", "1/2/3", "1.5", "1e3", "a", "1_0", "1/2 ", "0x1"):
            self.refused("BadRatio", {"what": "text"}, ratio_of, text)

    def test_what_is_no_string_is_refused(self):
        for thing in (None, 3, True, b"3", (3, 1), ["3"], 3.0, *NOT_SEQUENCES):
            if not isinstance(thing, str):
                self.refused("BadRatio", {"what": "text"}, ratio_of, thing)


class Tuples(Case):
    def test_lists_at_any_depth(self):
        things = [1, [2, (3, [4, True])], "ab", ()]
        self.same_tuple(as_tuples(things), (1, (2, (3, (4, True))), "ab", ()))
        self.assertEqual(things, [1, [2, (3, [4, True])], "ab", ()])
        for thing in (None, 5, "ab", True):
            self.assertIs(as_tuples(thing), thing)
