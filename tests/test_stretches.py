"""[6.4]: stretches of brick ratios and lists of them."""

from fractions import Fraction

from jointsapart.stretches import Stretch, are_within, both_stretches, either_stretches, is_in_stretches
from tests.helper import Case, ratio_from
from tests.test_patterns import NOT_RATIOS

STEPS = [Fraction(number, 4) for number in range(3, 21)]


def lists():
    """Some lists of stretches over quarters from 1 to 4."""
    found = [()]
    bounds = [(1, 1), (5, 4), (3, 2), (2, 1), (9, 4), (3, 1), (4, 1)]
    for at, low in enumerate(bounds):
        for high in [*bounds[at:], None]:
            if high == (1, 1):
                continue
            found.append((Stretch(low, high),))
            if high is not None:
                for by in range(bounds.index(high) + 1, len(bounds)):
                    found.append((Stretch(low, high), Stretch(bounds[by], bounds[by])))
                    found.append((Stretch(low, high), Stretch(bounds[by], None)))
    return found


def holds(stretches, number):
    return number > 1 and any(Fraction(*part.low) <= number and (part.high is None or number <= Fraction(*part.high))
                              for part in stretches)


class Single(Case):
    def test_attributes(self):
        stretch = Stretch((3, 2), (2, 1))
        self.assertEqual((stretch.low, stretch.high, stretch.low_shut), ((3, 2), (2, 1), True))
        self.assertIs(Stretch((1, 1), None).low_shut, False)
        self.assertIs(Stretch((1, 1), (2, 1)).low_shut, False)
        self.assertIs(Stretch((10 ** 99 + 1, 10 ** 99), None).low_shut, True)
        self.assertIsInstance(vars(Stretch)["low_shut"], property)
        self.assertIs(Stretch((3, 2), None).high, None)

    def test_refused_in_order(self):
        for low in ((0, 1), (1, 2), (-3, 2), (10 ** 99 - 1, 10 ** 99), *NOT_RATIOS):
            self.refused("BadStretch", {"what": "low"}, Stretch, low, (1, 2))
        for high in ((1, 1), (1, 2), (7, 5), (-2, 1), *[thing for thing in NOT_RATIOS if thing is not None]):
            self.refused("BadStretch", {"what": "high"}, Stretch, (3, 2), high)
        self.refused("BadStretch", {"what": "high"}, Stretch, (1, 1), (1, 1))
        self.assertEqual(Stretch((3, 2), (3, 2)).high, (3, 2))

    def test_in(self):
        for low in ((1, 1), (5, 4), (2, 1)):
            for high in (None, (2, 1), (9, 4)):
                stretch = Stretch(low, high)
                for number in [Fraction(0), Fraction(-2), *STEPS, Fraction(10 ** 99)]:
                    self.assertIs(ratio_from(number) in stretch, holds((stretch,), number))
        self.assertIs((1, 1) in Stretch((1, 1), None), False)
        self.assertIs((10 ** 99 + 1, 10 ** 99) in Stretch((1, 1), (2, 1)), True)
        self.assertIs((2, 1) in Stretch((2, 1), (2, 1)), True)

    def test_equal(self):
        one = Stretch((3, 2), (2, 1))
        self.assertIs(one == Stretch((3, 2), (2, 1)), True)
        self.assertIs(one != Stretch((3, 2), (2, 1)), False)
        for other in (Stretch((1, 1), (2, 1)), Stretch((3, 2), None), Stretch((3, 2), (5, 2)), ((3, 2), (2, 1)), None):
            self.assertIs(one == other, False)
            self.assertIs(one != other, True)


class Lists(Case):
    def check_list(self, found, due):
        self.assertIs(type(found), tuple)
        for number in STEPS + [Fraction(100), Fraction(10 ** 9 + 1, 10 ** 9)] + [step + Fraction(1, 8) for step in STEPS]:
            self.assertIs(is_in_stretches(found, ratio_from(number)), due(number), number)
        for one, other in zip(found, found[1:]):
            self.assertGreater(Fraction(*other.low), Fraction(*one.high))

    def test_either_and_both(self):
        some = lists()
        for one in some:
            for other in some[::3]:
                self.check_list(either_stretches(one, list(other)), lambda number: holds(one, number) or holds(other, number))
                self.check_list(both_stretches(list(one), other), lambda number: holds(one, number) and holds(other, number))

    def test_within(self):
        for one in lists():
            for other in lists()[::2]:
                due = all(holds(other, number) for step in STEPS for number in (step, step + Fraction(1, 8), step * 10 ** 9)
                          if holds(one, number))
                due = due and (not holds(one, Fraction(10 ** 9 + 1, 10 ** 9)) or holds(other, Fraction(10 ** 9 + 1, 10 ** 9)))
                self.assertIs(are_within(one, list(other)), due)

    def test_touching(self):
        joined = either_stretches((Stretch((1, 1), (2, 1)),), (Stretch((2, 1), None),))
        self.assertEqual(joined, (Stretch((1, 1), None),))
        self.assertEqual(either_stretches((Stretch((2, 1), (3, 1)),), (Stretch((2, 1), (2, 1)), Stretch((3, 1), (4, 1)))),
                         (Stretch((2, 1), (4, 1)),))
        self.assertEqual(both_stretches((Stretch((1, 1), (2, 1)),), (Stretch((2, 1), None),)), (Stretch((2, 1), (2, 1)),))
        self.assertEqual(both_stretches((Stretch((1, 1), (2, 1)),), (Stretch((1, 1), (3, 2)),)), (Stretch((1, 1), (3, 2)),))
        self.assertEqual(either_stretches((), ()), ())
        self.assertEqual(both_stretches((), (Stretch((1, 1), None),)), ())
        self.assertIs(are_within((), ()), True)
        self.assertIs(are_within((Stretch((1, 1), None),), (Stretch((2, 1), None),)), False)
        self.assertIs(is_in_stretches((), (2, 1)), False)

    def test_later_changes_have_no_effect(self):
        one = [Stretch((2, 1), (3, 1))]
        found = either_stretches(one, ())
        one.pop()
        self.assertEqual(found, (Stretch((2, 1), (3, 1)),))
