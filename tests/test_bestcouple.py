"""[6.9]: one couple is enough for all ratios."""

from fractions import Fraction

from jointsapart.apartness import apart_stretches
from jointsapart.bestcouple import best_couple, best_fault, last_whole
from jointsapart.stretches import are_within
from jointsapart.widest import couple_stretches
from tests.helper import ALL_COUNTS, NOT_SEQUENCES, NOT_WHOLE, Case, ratio_from, slow_patterns, slow_share, slow_widest

SHARES = sorted({Fraction(top, bottom) for bottom in range(1, 9) for top in range(1, bottom + 1)})


class Best(Case):
    def test_last_whole(self):
        for a_count, b_count in ALL_COUNTS:
            due = None
            if a_count and b_count:
                due = 1
                while due - 1 < Fraction(a_count - 1, b_count):
                    due += 1
            self.assertEqual(last_whole(a_count, b_count), due)
        self.assertEqual([last_whole(*counts) for counts in ((7, 1), (3, 2), (4, 2), (1, 7), (2, 2))], [7, 2, 3, 1, 2])

    def test_enough_for_all_ratios_and_shares(self):
        for counts in ALL_COUNTS:
            couple = best_couple(*counts)
            self.same_tuple(couple, couple)
            self.assertIs(best_fault(*counts, couple), None)
            self.assertIs(best_fault(*counts, [list(pattern) for pattern in couple[::-1]]), None)
            for share in SHARES:
                share = ratio_from(share)
                self.assertEqual(apart_stretches(*couple, share), couple_stretches(*counts, share))

    def test_against_the_widest_share(self):
        for counts in ((2, 2), (3, 2), (1, 3), (4, 1)):
            couple = best_couple(*counts)
            for ratio in (Fraction(number, 12) for number in range(13, 80)):
                self.assertEqual(min(1, slow_share(*couple, ratio)), min(1, slow_widest(*counts, ratio)))

    def test_one_kind(self):
        for a_count, b_count in ((1, 0), (8, 0), (0, 1), (0, 8)):
            pattern = (0,) * a_count + (1,) * b_count
            self.assertEqual(best_couple(a_count, b_count), (pattern, pattern))
            self.assertIs(best_fault(a_count, b_count, (pattern, pattern)), None)
            self.assertIs(last_whole(a_count, b_count), None)


class Fault(Case):
    def test_worse_exactly_if_some_ratio_is_lost(self):
        for counts in ((2, 1), (3, 1), (2, 2), (3, 2), (2, 3)):
            patterns = slow_patterns(*counts)
            seen = set()
            for one in patterns:
                for other in patterns:
                    lost = not all(are_within(couple_stretches(*counts, ratio_from(share)),
                                              apart_stretches(one, other, ratio_from(share))) for share in SHARES)
                    word = best_fault(*counts, (one, other))
                    self.assertEqual(word, "worse" if lost else None)
                    seen.add(word)
            self.assertEqual(seen, {None, "worse"})

    def test_words(self):
        one, other = best_couple(3, 2)
        for couple in ((), (one,), (one, other, one), *NOT_SEQUENCES):
            self.assertEqual(best_fault(3, 2, couple), "many")
        for wrong in ((), (0, 2), (0, True), *NOT_SEQUENCES):
            self.assertEqual(best_fault(3, 2, (one, wrong)), "pattern")
            self.assertEqual(best_fault(3, 2, ((0,), wrong)), "pattern")
        for wrong in ((0,), (0, 0, 1, 1), (0, 0, 0, 0, 1)):
            self.assertEqual(best_fault(3, 2, (wrong, other)), "counts")
            self.assertEqual(best_fault(3, 2, (other, wrong)), "counts")
            self.assertEqual(best_fault(3, 0, ((0, 0, 0), wrong)), "counts")
        self.assertEqual(best_fault(3, 2, (one, one)), "worse")

    def test_refused(self):
        for function in (last_whole, best_couple, lambda *counts: best_fault(*counts, None)):
            for a_count, b_count, what in ((9, 9, "a"), (-1, 3, "a"), (1, 9, "b"), (1, -1, "b"), (0, 0, "many"), (8, 1, "many")):
                self.refused("BadCounts", {"what": what}, function, a_count, b_count)
            for thing in NOT_WHOLE:
                self.refused("BadCounts", {"what": "a"}, function, thing, thing)
                self.refused("BadCounts", {"what": "b"}, function, 1, thing)
