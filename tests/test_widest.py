"""[6.6] and [6.7]: the widest share, and where couples of patterns are apart."""

from fractions import Fraction

from jointsapart.apartness import apart_stretches, share_at
from jointsapart.stretches import Stretch, either_stretches, is_in_stretches
from jointsapart.widest import Segment, couple_fault, couple_for, couple_stretches, share_profile, widest_share
from tests.helper import ALL_COUNTS, NOT_SEQUENCES, NOT_WHOLE, Case, fraction, ratio_from, slow_patterns, slow_widest
from tests.test_patterns import NOT_RATIOS

SMALL = [counts for counts in ALL_COUNTS if sum(counts) < 6]
MIXED = [counts for counts in ALL_COUNTS if min(counts) > 0]
RATIOS = sorted({Fraction(top, bottom) for bottom in range(1, 6) for top in range(bottom + 1, 7 * bottom)})
SHARES = ((1, 1), (1, 2), (2, 3), (1, 5), (3, 4), (1, 10 ** 99))
ALL = (Stretch((1, 1), None),)


class Widest(Case):
    def test_against_all_couples(self):
        for counts in SMALL:
            for ratio in RATIOS[::3]:
                due = slow_widest(*counts, ratio)
                self.assertEqual(widest_share(*counts, ratio_from(ratio)), None if due is None else ratio_from(due))
        for counts in ((4, 4), (7, 1), (1, 7), (5, 3)):
            self.assertEqual(widest_share(*counts, (17, 7)), ratio_from(slow_widest(*counts, Fraction(17, 7))))

    def test_edges(self):
        self.assertIs(widest_share(1, 0, (3, 2)), None)
        self.assertIs(widest_share(0, 1, (3, 2)), None)
        for counts in ((2, 0), (8, 0), (0, 2), (0, 8)):
            self.assertEqual(widest_share(*counts, (3, 2)), (0, 1))
        self.assertEqual(widest_share(1, 1, (10 ** 250, 1)), (10 ** 250 - 1, 1))
        self.assertEqual(widest_share(2, 1, (2, 1)), (0, 1))

    def test_refused_in_order(self):
        for a_count, b_count, what in ((9, 9, "a"), (True, 1, "a"), (1, 9, "b"), (1, None, "b"), (0, 0, "many"), (5, 4, "many")):
            self.refused("BadCounts", {"what": what}, widest_share, a_count, b_count, None)
            self.refused("BadCounts", {"what": what}, share_profile, a_count, b_count)
            self.refused("BadCounts", {"what": what}, couple_stretches, a_count, b_count, None)
            self.refused("BadCounts", {"what": what}, couple_for, a_count, b_count, None, None)
            self.refused("BadCounts", {"what": what}, couple_fault, a_count, b_count, None, None, None)
        for thing in NOT_WHOLE:
            self.refused("BadCounts", {"what": "a"}, share_profile, thing, 1)
        for counts in ((1, 0), (3, 0), (2, 2)):
            for ratio in ((1, 1), (1, 2), *NOT_RATIOS):
                self.refused("BadBrickRatio", {"ratio": ratio}, widest_share, *counts, ratio)
                self.refused("BadBrickRatio", {"ratio": ratio}, couple_for, *counts, (1, 2), ratio)
                self.refused("BadBrickRatio", {"ratio": ratio}, couple_fault, *counts, (1, 2), ratio, None)
            for share in ((0, 1), (2, 1), *NOT_RATIOS):
                self.refused("BadShare", {"share": share}, couple_stretches, *counts, share)
                self.refused("BadShare", {"share": share}, couple_for, *counts, share, None)
                self.refused("BadShare", {"share": share}, couple_fault, *counts, share, None, None)


class Profile(Case):
    def test_form(self):
        for counts in ALL_COUNTS:
            segments = share_profile(*counts)
            self.assertIs(type(segments), tuple)
            if sum(counts) == 1:
                self.assertEqual(segments, ())
                continue
            self.assertEqual((segments[0].low, segments[-1].high), ((1, 1), None))
            for one, other in zip(segments, segments[1:]):
                self.assertEqual(one.high, other.low)
                self.assertNotEqual((one.start, one.rise), (other.start, other.rise))
                self.assertLess(fraction(one.low), fraction(one.high))
                # The lines meet where one segment hands over to the other.
                self.assertEqual(one.start + one.rise * fraction(one.high), other.start + other.rise * fraction(other.low))
            for segment in segments:
                self.assertIs(type(segment), Segment)
                self.assertIs(type(segment.start), int)
                self.assertIs(type(segment.rise), int)

    def test_against_the_widest_share(self):
        for counts in ALL_COUNTS:
            for segment in share_profile(*counts):
                low = fraction(segment.low)
                high = low + 5 if segment.high is None else fraction(segment.high)
                for ratio in ((3 * low + high) / 4, (low + high) / 2, high):
                    self.assertEqual(fraction(widest_share(*counts, ratio_from(ratio))), segment.start + segment.rise * ratio)

    def test_far(self):
        for counts in MIXED:
            last = share_profile(*counts)[-1]
            for ratio in (Fraction(10 ** 200), Fraction(10 ** 200 + 1, 7)):
                self.assertEqual(fraction(widest_share(*counts, ratio_from(ratio))), last.start + last.rise * ratio)

    def test_example(self):
        told = [(part.low, part.high, part.start, part.rise) for part in share_profile(2, 1)]
        self.assertEqual(told, [((1, 1), (3, 2), -1, 1), ((3, 2), (2, 1), 2, -1), ((2, 1), None, -2, 1)])
        self.assertEqual([(part.low, part.high, part.start, part.rise) for part in share_profile(3, 0)], [((1, 1), None, 0, 0)])

    def test_segment_is_a_result(self):
        low = []
        self.assertIs(Segment(low, None, 1, 2).low, low)


class Couples(Case):
    def test_stretches_against_all_couples(self):
        for a_count, b_count in MIXED:
            if a_count + b_count > 6:
                continue
            patterns = slow_patterns(a_count, b_count)
            for share in SHARES:
                due = ()
                for at, one in enumerate(patterns):
                    for other in patterns[at:]:
                        due = either_stretches(due, apart_stretches(one, other, share))
                self.assertEqual(couple_stretches(a_count, b_count, share), due)

    def test_stretches_by_the_widest_share(self):
        for counts in ALL_COUNTS:
            for share in SHARES:
                stretches = couple_stretches(*counts, share)
                for ratio in RATIOS[::19]:
                    widest = widest_share(*counts, ratio_from(ratio))
                    due = widest is None or fraction(widest) >= fraction(share)
                    self.assertIs(is_in_stretches(stretches, ratio_from(ratio)), due)

    def test_one_kind(self):
        for share in SHARES:
            for counts in ((1, 0), (0, 1)):
                self.assertEqual(couple_stretches(*counts, share), ALL)
                pattern = (0,) if counts == (1, 0) else (1,)
                self.same_tuple(couple_for(*counts, share, (3, 2)), (pattern, pattern))
                self.assertIs(couple_fault(*counts, share, (3, 2), (pattern, pattern)), None)
            for counts in ((2, 0), (8, 0), (0, 2), (0, 8)):
                self.assertEqual(couple_stretches(*counts, share), ())
                self.assertIs(couple_for(*counts, share, (10 ** 99, 1)), None)

    def test_examples(self):
        # M is 3: 1 more than the least whole number that is at least 2.
        self.assertEqual(couple_stretches(3, 1, (1, 2)),
                         (Stretch((3, 2), (3, 2)), Stretch((5, 2), (5, 2)), Stretch((7, 2), None)))
        self.assertEqual(couple_stretches(3, 1, (1, 1)), (Stretch((4, 1), None),))
        self.assertEqual(couple_stretches(3, 1, (1, 4)), (Stretch((5, 4), (7, 4)), Stretch((9, 4), (11, 4)), Stretch((13, 4), None)))
        self.assertEqual(couple_stretches(3, 2, (1, 1)), (Stretch((3, 1), None),))

    def test_couple_for(self):
        for counts in ALL_COUNTS:
            for share in SHARES[:4]:
                for ratio in RATIOS[::13]:
                    ratio = ratio_from(ratio)
                    found = couple_for(*counts, share, ratio)
                    self.same_tuple(found, found)
                    self.assertIs(found is not None, is_in_stretches(couple_stretches(*counts, share), ratio))
                    if found is not None:
                        self.assertIs(couple_fault(*counts, share, ratio, found), None)
                        self.assertIs(couple_fault(*counts, share, ratio, [list(row) for row in found[::-1]]), None)


class Fault(Case):
    def check(self, word, couple, share=(1, 2), ratio=(7, 2)):
        self.assertEqual(couple_fault(3, 1, share, ratio, couple), word)

    def test_all_couples(self):
        patterns = slow_patterns(3, 2)
        for share in SHARES[:3]:
            for ratio in ((3, 2), (7, 2), (5, 1)):
                for one in patterns:
                    for other in patterns:
                        least = share_at(one, other, ratio)
                        due = None if fraction(least) >= fraction(share) else "clash"
                        self.assertEqual(couple_fault(3, 2, share, ratio, (one, other)), due)

    def test_words(self):
        one, other = (0, 0, 0, 1), (1, 0, 0, 0)
        self.check(None, (one, other))
        for couple in ((), (one,), (one, other, other), *NOT_SEQUENCES):
            self.check("many", couple)
        for wrong in ((), (0, 2), (0, True), (0,) * 51, *NOT_SEQUENCES):
            self.check("pattern", (one, wrong))
            self.check("pattern", (wrong, other))
            self.check("pattern", ((0,), wrong))
        for wrong in ((0,), (0, 0, 1, 1), (0, 0, 0, 0, 1)):
            self.check("counts", (one, wrong))
            self.check("counts", (wrong, one))
        self.check("counts", ((0, 1, 0, 0), (0,)))
        self.check("clash", (one, one))
        self.check("clash", ((0, 1, 0, 0), (1, 0, 0, 0)))
        self.check("clash", (one, other), (1, 2), (3, 1))
        self.check("clash", (one, other), (1, 1))
        self.check(None, (one, other), (1, 2), (5, 2))
