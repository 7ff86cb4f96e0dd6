"""[6.10]: drifts with the fewest legs, marks that show it, and their judges."""

from fractions import Fraction

from jointsapart.driftjudge import drift_fault, marks_fault
from jointsapart.drifts import Drift, Leg, drift_for, drift_marks, reach_from
from jointsapart.widest import share_profile
from tests.helper import ALL_COUNTS, NOT_SEQUENCES, NOT_WHOLE, Case, fraction, ratio_from, slow_patterns, slow_share, slow_widest
from tests.test_patterns import NOT_RATIOS

DRIFTS = (((3, 2), None), ((10 ** 99 + 1, 10 ** 99), None), ((5, 4), (5, 4)), ((7, 5), (9, 2)), ((2, 1), (2, 1)),
          ((2, 1), (3, 1)), ((10 ** 99, 1), None), ((11, 10), (12, 10 ** 0)))
MANY = ((4, 4), (3, 2), (5, 3), (2, 2), (6, 1))


def places_between(counts, low, high):
    """Ratios at which all distances change their order, and one between each two of them, from low to high."""
    bounds = {Fraction(top, bottom) for bottom in range(1, 2 * counts[1] + 1) for top in range(1, 2 * counts[0] + 2)}
    last = max(*bounds, low) + 3 if high is None else high
    bounds = sorted({bound for bound in bounds if low < bound < last} | {low, last})
    return sorted({*bounds, *[(one + other) / 2 for one, other in zip(bounds, bounds[1:])]})


def keeps(counts, leg):
    """Whether the leg keeps the widest share, at all ratios where that can change."""
    high = None if leg.high is None else fraction(leg.high)
    return all(slow_share(leg.one, leg.other, ratio) == slow_widest(*counts, ratio)
               for ratio in places_between(counts, fraction(leg.low), high))


class Made(Case):
    def test_drifts_and_marks(self):
        for counts in ALL_COUNTS:
            for low, high in DRIFTS:
                drift = drift_for(*counts, low, high)
                self.assertIs(type(drift), Drift)
                self.assertIs(type(drift.legs), tuple)
                self.assertEqual((drift.legs[0].low, drift.legs[-1].high), (low, high))
                for one, other in zip(drift.legs, drift.legs[1:]):
                    self.assertEqual(one.high, other.low)
                for leg in drift.legs:
                    self.assertIs(type(leg), Leg)
                    self.same_tuple((leg.one, leg.other), (leg.one, leg.other))
                self.assertIs(drift_fault(*counts, low, high, drift), None)
                marks = drift_marks(*counts, low, high)
                self.same_tuple(marks, marks)
                self.assertIs(marks_fault(*counts, low, high, marks), None)
                # As many marks, no leg having two of them, show that there are no fewer legs.
                self.assertEqual(len(marks), len(drift.legs))

    def test_legs_against_all_couples(self):
        for counts in ((2, 2), (3, 2), (2, 1), (1, 3), (4, 1)):
            for low, high in DRIFTS:
                for leg in drift_for(*counts, low, high).legs:
                    self.assertTrue(keeps(counts, leg))

    def test_reach_against_all_couples(self):
        for counts in ((2, 2), (3, 2), (2, 1), (4, 1)):
            patterns = slow_patterns(*counts)
            for ratio in ((10 ** 9 + 1, 10 ** 9), (5, 4), (3, 2), (2, 1), (5, 2), (3, 1), (9, 1)):
                places = places_between(counts, fraction(ratio), None)
                best = places[0]
                for at, one in enumerate(patterns):
                    for other in patterns[at:]:
                        for place in places:
                            if slow_share(one, other, place) != slow_widest(*counts, place):
                                break
                            best = max(best, place)
                found = reach_from(*counts, ratio)
                self.assertEqual(found, None if best == places[-1] else ratio_from(best))

    def test_more_than_one_leg(self):
        told = [len(drift_for(*counts, (10 ** 9 + 1, 10 ** 9), None).legs) for counts in MANY]
        self.assertGreater(max(told), 2)
        counts = MANY[told.index(max(told))]
        first = reach_from(*counts, (10 ** 9 + 1, 10 ** 9))
        self.assertEqual(drift_for(*counts, (10 ** 9 + 1, 10 ** 9), first).legs[0].high, first)
        self.assertEqual(len(drift_for(*counts, (10 ** 9 + 1, 10 ** 9), first).legs), 1)
        beyond = ratio_from(fraction(first) + Fraction(1, 10 ** 99))
        self.assertEqual(len(drift_for(*counts, (10 ** 9 + 1, 10 ** 9), beyond).legs), 2)
        self.assertEqual(drift_marks(*counts, (10 ** 9 + 1, 10 ** 9), first), ((10 ** 9 + 1, 10 ** 9),))
        marks = drift_marks(*counts, (10 ** 9 + 1, 10 ** 9), beyond)
        self.assertEqual(len(marks), 2)
        self.assertGreater(fraction(marks[1]), fraction(first))
        # Marks may lie at the ends of the drift.
        self.assertIs(marks_fault(*counts, (10 ** 9 + 1, 10 ** 9), beyond, ((10 ** 9 + 1, 10 ** 9), beyond)), None)

    def test_one_kind(self):
        for counts in ((1, 0), (0, 1), (8, 0), (0, 8)):
            drift = drift_for(*counts, (3, 2), None)
            self.assertEqual(len(drift.legs), 1)
            self.assertEqual(drift.legs[0].one, drift.legs[0].other)
            self.assertIs(reach_from(*counts, (3, 2)), None)
            self.assertEqual(drift_marks(*counts, (3, 2), (4, 1)), ((3, 2),))

    def test_results_keep_what_they_are_given(self):
        low, legs = [], []
        self.assertIs(Leg(low, None, 1, 2).low, low)
        self.assertIs(Drift(legs).legs, legs)

    def test_refused_in_order(self):
        for function, more in ((drift_for, ()), (drift_marks, ()), (drift_fault, (None,)), (marks_fault, (None,))):
            for a_count, b_count, what in ((9, 0, "a"), (0, 9, "b"), (0, 0, "many"), (4, 5, "many")):
                self.refused("BadCounts", {"what": what}, function, a_count, b_count, None, None, *more)
                self.refused("BadCounts", {"what": what}, reach_from, a_count, b_count, None)
            for thing in NOT_WHOLE:
                self.refused("BadCounts", {"what": "b"}, function, 1, thing, None, None, *more)
            for low in ((1, 1), (1, 2), *NOT_RATIOS):
                self.refused("BadDrift", {"what": "low"}, function, 2, 1, low, (1, 2), *more)
                self.refused("BadBrickRatio", {"ratio": low}, reach_from, 2, 1, low)
            for high in ((1, 1), (7, 5), (3 * 10 ** 99 - 1, 2 * 10 ** 99), *[thing for thing in NOT_RATIOS if thing is not None]):
                self.refused("BadDrift", {"what": "high"}, function, 2, 1, (3, 2), high, *more)


class DriftFault(Case):
    LOW, HIGH = (5, 4), (7, 1)

    def setUp(self):
        self.counts = (3, 2)
        self.legs = drift_for(3, 2, self.LOW, self.HIGH).legs
        self.assertGreater(len(self.legs), 1)

    def check(self, word, legs, low=LOW, high=HIGH):
        self.assertEqual(drift_fault(3, 2, low, high, Drift(legs)), word)

    def changed(self, at, **more):
        leg = Leg(*[more.get(name, getattr(self.legs[at], name)) for name in ("low", "high", "one", "other")])
        legs = list(self.legs)
        legs[at] = leg
        return tuple(legs)

    def test_right_things_that_the_program_does_not_make(self):
        self.check(None, self.legs)
        # More legs than needed, legs of one ratio, mirrored and exchanged patterns.
        legs = []
        for leg in self.legs:
            middle = ratio_from((fraction(leg.low) + fraction(leg.high)) / 2)
            legs += [Leg(leg.low, leg.low, leg.one, leg.other), Leg(leg.low, middle, leg.other, leg.one),
                     Leg(middle, leg.high, leg.one, leg.other)]
        self.check(None, tuple(legs))
        # Where the widest share is 0, patterns with a joint in common keep it.
        same = (0, 0, 1, 1, 0)
        self.assertEqual(fraction((0, 1)), slow_widest(3, 2, Fraction(2)))
        self.assertIs(drift_fault(3, 2, (2, 1), (2, 1), Drift((Leg((2, 1), (2, 1), same, same),))), None)
        self.assertEqual(drift_fault(3, 2, (2, 1), (3, 1), Drift((Leg((2, 1), (3, 1), same, same),))), "narrow")

    def test_none(self):
        for legs in ((), [], None, 5):
            self.check("none", legs)

    def test_low_and_high(self):
        self.check("low", self.changed(0, low=(3, 2)))
        self.check("low", self.changed(0, low=[5, 4]))
        self.check("low", self.changed(0, low=None))
        self.check("low", self.legs, (3, 2))
        self.check("low", self.changed(0, low=(10, 8)))
        self.check("high", self.changed(-1, high=(5, 1)))
        self.check("high", self.changed(-1, high=None))
        self.check("high", self.legs, self.LOW, None)
        self.check("high", self.changed(-1, high=(True, 1)), self.LOW, (5, 1))
        # True is no whole number, though Python takes (4, True) for (4, 1).
        one = drift_for(3, 2, (4, 1), (5, 1)).legs[0]
        self.assertEqual(drift_fault(3, 2, (4, 1), (5, 1), Drift((Leg((4, True), (5, 1), one.one, one.other),))), "low")
        self.assertEqual(drift_fault(3, 2, (4, 1), (5, 1), Drift((Leg((4, 1), (5, True), one.one, one.other),))), "high")
        # "low" is asked before "high".
        self.check("low", [Leg((9, 1), (9, 1), (), ())])

    def test_joined(self):
        self.check("joined", self.changed(0, high=(13, 10)))
        self.check("joined", self.changed(0, high=None))
        self.check("joined", self.changed(0, high=(1, 1)))
        self.check("joined", self.changed(1, low=(9, 1)))
        self.check("joined", self.changed(1, low=None))
        self.check("joined", self.legs[:1] + self.legs)
        one, other = (0, 0, 1, 0, 1), (1, 0, 1, 0, 0)
        self.check("joined", (Leg(self.LOW, None, one, other), Leg(None, None, one, other)), self.LOW, None)
        back = [self.legs[0], Leg(self.legs[0].high, self.LOW, (), ()), *self.legs]
        self.check("joined", back)

    def test_pattern_and_counts(self):
        for wrong in ((), (0, 2), (0, True, 0, 1, 0), None, 5):
            self.check("pattern", self.changed(0, one=wrong))
            self.check("pattern", self.changed(-1, other=wrong))
            # Asked of all legs before "counts" of any.
            legs = (Leg(self.LOW, self.legs[0].high, (0,), (1,)), *self.changed(1, other=wrong)[1:])
            self.check("pattern", legs)
        for wrong in ((0,), (0, 0, 1, 1, 1), (0, 0, 0, 1, 1, 0)):
            self.check("counts", self.changed(0, one=wrong))
            self.check("counts", self.changed(-1, other=wrong))
        self.assertEqual(drift_fault(1, 0, (3, 2), None, Drift((Leg((3, 2), None, (0,), (1,)),))), "counts")

    def test_narrow(self):
        for at in range(len(self.legs)):
            self.check("narrow", self.changed(at, one=self.legs[at].other))
        first, second = self.legs[:2]
        whole = (Leg(self.LOW, self.legs[-1].high, first.one, first.other),)
        self.check("narrow", whole)
        # A leg that goes too far by next to nothing, on either side.
        little = ratio_from(fraction(first.high) + Fraction(1, 10 ** 99))
        self.check("narrow", (Leg(self.LOW, little, first.one, first.other),
                              Leg(little, second.high, second.one, second.other), *self.legs[2:]))

    def test_without_end(self):
        for counts in ((3, 2), (2, 2), (1, 3)):
            legs = drift_for(*counts, (3, 2), None).legs
            self.assertIs(drift_fault(*counts, (3, 2), None, Drift(legs)), None)
            low = fraction(legs[-1].low) + 9
            last = share_profile(*counts)[-1]
            self.assertLess(fraction(last.low), low)
            for one in slow_patterns(*counts):
                for other in slow_patterns(*counts):
                    wide = all(slow_share(one, other, ratio) == last.start + last.rise * ratio for ratio in (low, low + 1))
                    drift = Drift((Leg(ratio_from(low), None, one, other),))
                    self.assertEqual(drift_fault(*counts, ratio_from(low), None, drift), None if wide else "narrow")

    def test_narrow_at_one_turn_alone(self):
        """Each couple, on each two neighbouring parts between ratios where distances change their order."""
        for counts in ((2, 2), (3, 2), (4, 1), (2, 3)):
            patterns = slow_patterns(*counts)
            bounds = places_between(counts, Fraction(9, 8), Fraction(9))
            for low, high in [*zip(bounds, bounds[2:]), (bounds[0], bounds[-1])]:
                for at, one in enumerate(patterns):
                    for other in patterns[at:]:
                        leg = Leg(ratio_from(low), ratio_from(high), one, other)
                        due = None if keeps(counts, leg) else "narrow"
                        self.assertEqual(drift_fault(*counts, leg.low, leg.high, Drift((leg,))), due)

    def test_narrow_within_alone(self):
        """Couples that keep the widest share at both ends of a leg and not between them."""
        seen = 0
        for counts in ((2, 1), (3, 1), (3, 2), (5, 1), (1, 2)):
            patterns = slow_patterns(*counts)
            bounds = places_between(counts, Fraction(9, 8), Fraction(9))
            for at, one in enumerate(patterns):
                for other in patterns[at:]:
                    kept = [place for place in bounds if slow_share(one, other, place) == slow_widest(*counts, place)]
                    for low, high in zip(kept, kept[1:]):
                        if bounds.index(high) > bounds.index(low) + 1:
                            leg = Leg(ratio_from(low), ratio_from(high), one, other)
                            self.assertEqual(drift_fault(*counts, leg.low, leg.high, Drift((leg,))), "narrow")
                            seen += 1
        self.assertGreater(seen, 10)


class MarksFault(Case):
    LOW, HIGH = (5, 4), (7, 1)

    def check(self, word, marks, low=LOW, high=HIGH):
        self.assertEqual(marks_fault(3, 2, low, high, marks), word)

    def test_words(self):
        marks = drift_marks(3, 2, self.LOW, self.HIGH)
        self.check(None, marks)
        self.check(None, list(marks))
        for wrong in ((), [], *[thing for thing in NOT_SEQUENCES]):
            self.check("none", wrong)
        for wrong in ((1, 1), (1, 2), *NOT_RATIOS):
            self.check("ratio", (*marks, wrong))
            self.check("ratio", ((9, 1), wrong))
        for wrong in ((6, 5), (15, 2), (9, 1)):
            self.check("range", (*marks, wrong))
            self.check("range", (wrong, *marks))
            self.check("range", (marks[-1], marks[0], wrong))
        self.check("order", marks[::-1])
        self.check("order", (*marks, marks[-1]))
        self.check("order", (marks[0], marks[0]))
        reach = reach_from(3, 2, self.LOW)
        self.check("held", (self.LOW, reach))
        self.check(None, (self.LOW, ratio_from(fraction(reach) + Fraction(1, 10 ** 99))))
        self.check("held", (*marks[:-1], *sorted([marks[-1], self.HIGH], key=fraction)))
        # Few marks are right, too.
        for mark in (self.LOW, (2, 1), self.HIGH):
            self.check(None, (mark,))

    def test_without_end(self):
        marks = drift_marks(4, 4, (9, 8), None)
        self.assertIs(marks_fault(4, 4, (9, 8), None, marks), None)
        self.assertEqual(marks_fault(4, 4, (9, 8), None, (*marks, (10 ** 99, 1))), "held")
        self.assertIs(marks_fault(4, 4, (9, 8), None, ((10 ** 99, 1),)), None)
        self.assertEqual(marks_fault(1, 0, (9, 8), None, ((2, 1), (3, 1))), "held")
