"""[6.8]: lengths of short and long bricks, by courses of any counts."""

from fractions import Fraction
from itertools import combinations

from jointsapart.anylengths import courses_at, courses_fault, length_stretches
from jointsapart.lengths import length_calendar
from jointsapart.ratios import make_ratio
from jointsapart.stock import Stock
from jointsapart.stretches import Stretch, are_within, either_stretches, is_in_stretches
from jointsapart.widest import couple_stretches
from tests.helper import ALL_COUNTS, NOT_SEQUENCES, NOT_WHOLE, Case, fraction, ratio_from, slow_share
from tests.test_patterns import NOT_RATIOS

ENDING = [counts for counts in ALL_COUNTS if counts[0] > 0 or counts[1] == 1]
SHARES = ((1, 1), (1, 2), (2, 3), (1, 5), (1, 10 ** 99))
RATIOS = sorted({Fraction(top, bottom) for bottom in range(1, 9) for top in range(bottom + 1, 5 * bottom)})


def patterns_of_length(length, ratio):
    """All patterns of this length at a ratio, of any counts."""
    found = [()] if length == 0 else []
    for brick, size in ((0, Fraction(1)), (1, ratio)):
        if size <= length:
            found += [(brick, *row) for row in patterns_of_length(length - size, ratio)]
    return found


def slow_couple(counts, share, ratio):
    """Whether two courses of the length are apart, by trying each two."""
    patterns = patterns_of_length(counts[0] + counts[1] * ratio, ratio)
    return any(slow_share(one, other, ratio) is None or slow_share(one, other, ratio) >= fraction(share)
               for at, one in enumerate(patterns) for other in patterns[at:])


class Lengths(Case):
    def test_against_all_courses(self):
        for counts in [counts for counts in ENDING if sum(counts) < 5]:
            for share in SHARES[:3]:
                stretches = length_stretches(*counts, share)
                for ratio in RATIOS[::4]:
                    due = slow_couple(counts, share, ratio)
                    self.assertIs(is_in_stretches(stretches, ratio_from(ratio)), due, (counts, share, ratio))
                    self.assertIs(courses_at(*counts, share, ratio_from(ratio)) is not None, due)

    def test_against_the_lengths_of_stocks(self):
        for bricks in combinations(range(1, 9), 2):
            for lap in range(1, min(4, bricks[0]) + 1):
                calendar = length_calendar(Stock(bricks, lap))
                share = make_ratio(lap, bricks[0])
                ratio = make_ratio(bricks[1], bricks[0])
                for a_count, b_count in ENDING[sum(bricks) % 3::3]:
                    due = a_count * bricks[0] + b_count * bricks[1] in calendar
                    self.assertIs(is_in_stretches(length_stretches(a_count, b_count, share), ratio), due)
                    couple = courses_at(a_count, b_count, share, ratio)
                    self.assertIs(couple is not None, due)
                    if due:
                        self.same_tuple(couple, couple)
                        self.assertIs(courses_fault(a_count, b_count, share, ratio, couple), None)

    def test_single_ratios_beside_the_stretches(self):
        singles = 0
        for counts in ENDING:
            for share in SHARES:
                found = length_stretches(*counts, share)
                apart = couple_stretches(*counts, share)
                self.assertIs(type(found), tuple)
                self.assertTrue(are_within(apart, found))
                single = [stretch for stretch in found if stretch not in apart]
                for stretch in single:
                    self.assertEqual(stretch.low, stretch.high)
                    self.assertFalse(is_in_stretches(apart, stretch.low))
                    couple = courses_at(*counts, share, stretch.low)
                    self.assertIs(courses_fault(*counts, share, stretch.low, couple), None)
                self.assertEqual(found, either_stretches(apart, single))
                singles += len(single)
        self.assertGreater(singles, 100)

    def test_examples(self):
        # Two short bricks are as long as one long brick of the ratio 2, which has no joint.
        self.assertEqual(length_stretches(2, 0, (1, 1)), (Stretch((2, 1), (2, 1)),))
        self.assertIn((1,), courses_at(2, 0, (1, 1), (2, 1)))
        # Three short ones are as long as one of the ratio 3, or as (0, 1) and (1, 0) of the ratio 2.
        self.assertEqual(length_stretches(3, 0, (1, 1)), (Stretch((2, 1), (2, 1)), Stretch((3, 1), (3, 1))))
        self.assertEqual(length_stretches(1, 0, (1, 2)), (Stretch((1, 1), None),))
        self.assertEqual(length_stretches(0, 1, (1, 2)), (Stretch((1, 1), None),))
        self.assertEqual(length_stretches(1, 1, (1, 1)), (Stretch((2, 1), None),))

    def test_far_ratios(self):
        for counts in ENDING:
            for ratio in ((10 ** 250, 1), (10 ** 250 + 1, 7), (10 ** 250 + 1, 10 ** 250)):
                couple = courses_at(*counts, (1, 3), ratio)
                self.assertIs(couple is not None, is_in_stretches(length_stretches(*counts, (1, 3)), ratio))
                if couple is not None:
                    self.assertIs(courses_fault(*counts, (1, 3), ratio, couple), None)

    def test_refused_in_order(self):
        for function, more in ((length_stretches, (None,)), (courses_at, (None, None)), (courses_fault, (None, None, None))):
            for a_count, b_count, what in ((9, 0, "a"), (0, 9, "b"), (0, 0, "many"), (4, 5, "many"), (True, 2, "a")):
                self.refused("BadCounts", {"what": what}, function, a_count, b_count, *more)
            for thing in NOT_WHOLE:
                self.refused("BadCounts", {"what": "a"}, function, thing, 2, *more)
                self.refused("BadCounts", {"what": "b"}, function, 0, thing, *more)
        for b_count in range(2, 9):
            self.refused("NoEnd", {}, length_stretches, 0, b_count, None)
            self.refused("NoEnd", {}, courses_at, 0, b_count, None, None)
            self.refused("BadShare", {"share": None}, courses_fault, 0, b_count, None, None, None)
        for share in ((0, 1), (2, 1), *NOT_RATIOS):
            self.refused("BadShare", {"share": share}, length_stretches, 1, 1, share)
            self.refused("BadShare", {"share": share}, courses_at, 1, 1, share, None)
            self.refused("BadShare", {"share": share}, courses_fault, 1, 1, share, None, None)
        for ratio in ((1, 1), (1, 2), *NOT_RATIOS):
            self.refused("BadBrickRatio", {"ratio": ratio}, courses_at, 1, 1, (1, 1), ratio)
            self.refused("BadBrickRatio", {"ratio": ratio}, courses_fault, 1, 1, (1, 1), ratio, None)


class Fault(Case):
    def check(self, word, couple, counts=(3, 0), share=(1, 1), ratio=(2, 1)):
        self.assertEqual(courses_fault(*counts, share, ratio, couple), word)

    def test_right_things(self):
        self.check(None, ((0, 1), (1, 0)))
        self.check(None, [[0, 1], [1, 0]])
        self.check(None, ((1,), (1,)), (2, 0))
        self.check(None, ((1,), (0, 0)), (2, 0))
        # Without NoEnd: two long bricks of the ratio 3 / 2 are three short ones.
        self.check("clash", ((1, 1), (1, 1)), (0, 2), (1, 2), (3, 2))
        self.check(None, ((1, 1), (0, 0, 0)), (0, 2), (1, 2), (3, 2))

    def test_all_couples(self):
        for counts, ratio in (((2, 1), Fraction(2)), ((2, 1), Fraction(3, 2)), ((0, 3), Fraction(4, 3)), ((4, 0), Fraction(2))):
            patterns = patterns_of_length(counts[0] + counts[1] * ratio, ratio)
            for share in SHARES:
                for one in patterns:
                    for other in patterns:
                        least = slow_share(one, other, ratio)
                        due = None if least is None or least >= fraction(share) else "clash"
                        self.check(due, (one, other), counts, share, ratio_from(ratio))

    def test_words(self):
        for couple in ((), ((0, 1),), ((0, 1), (1, 0), (1, 0)), *NOT_SEQUENCES):
            self.check("many", couple)
        for wrong in ((), (0, 2), (0, True), (0,) * 51, *NOT_SEQUENCES):
            self.check("pattern", ((0, 1), wrong))
            self.check("pattern", (wrong, (1, 0)))
            self.check("pattern", ((0,), wrong))
        for wrong in ((0,), (1, 1), (0, 0, 0, 0), (0, 0, 1)):
            self.check("length", ((0, 1), wrong))
            self.check("length", (wrong, (0, 1)))
        self.check("length", ((0, 0, 0), (0, 1)), (3, 0), (1, 1), (2 * 10 ** 99 + 1, 10 ** 99))
        self.check("clash", ((0, 0, 0), (0, 1)))
        self.check("clash", ((0, 1), (0, 1)))
