"""[6.5]: at which brick ratios two joints, and two patterns, are apart."""

from fractions import Fraction
from itertools import product

from jointsapart.apartness import apart_from, apart_stretches, clash_at, kept_stretches, share_at
from jointsapart.stretches import Stretch, is_in_stretches
from tests.helper import ALL_COUNTS, Case, fraction, ratio_from, slow_patterns, slow_places, slow_share
from tests.test_patterns import NOT_RATIOS

SHARES = ((1, 1), (1, 2), (2, 3), (1, 5), (3, 4))
RATIOS = sorted({Fraction(top, bottom) for bottom in range(1, 8) for top in range(bottom + 1, 7 * bottom)}
                | {Fraction(10 ** 9 + 1, 10 ** 9), Fraction(10 ** 9)})
ALL = (Stretch((1, 1), None),)


def couples():
    """Some couples of patterns, of like and unlike counts, with one brick and with many."""
    patterns = [pattern for counts in ALL_COUNTS if sum(counts) < 6 for pattern in slow_patterns(*counts)]
    return [(one, other) for at, one in enumerate(patterns) for other in patterns[at % 11::11]]


class Joints(Case):
    def test_against_the_places(self):
        for one in product(range(4), repeat=2):
            for other in product(range(4), repeat=2):
                for share in SHARES:
                    found = kept_stretches(one, list(other), share)
                    for ratio in RATIOS[::3]:
                        apart = abs(one[0] - other[0] + (one[1] - other[1]) * ratio) >= fraction(share)
                        self.assertIs(is_in_stretches(found, ratio_from(ratio)), apart)

    def test_edges(self):
        self.assertEqual(kept_stretches((2, 1), (2, 1), (1, 2)), ())
        self.assertEqual(kept_stretches((2, 1), (3, 1), (1, 1)), ALL)
        self.assertEqual(kept_stretches((1, 0), (0, 1), (1, 1)), (Stretch((2, 1), None),))
        self.assertEqual(kept_stretches((3, 0), (0, 1), (1, 2)), (Stretch((1, 1), (5, 2)), Stretch((7, 2), None)))
        self.assertEqual(kept_stretches((2, 0), (0, 1), (1, 1)), (Stretch((3, 1), None),))
        self.assertEqual(kept_stretches((0, 1), (1, 2), (1, 1)), ALL)
        # What is barred ends just at 1.
        self.assertEqual(kept_stretches((0, 0), (0, 1), (1, 1)), ALL)
        self.assertEqual(kept_stretches((1, 0), (0, 2), (1, 1)), ALL)
        self.assertEqual(kept_stretches((3, 0), (0, 2), (1, 1)), (Stretch((2, 1), None),))

    def test_refused(self):
        for share in ((0, 1), (2, 1), (-1, 1), *NOT_RATIOS):
            self.refused("BadShare", {"share": share}, kept_stretches, (1, 1), (1, 1), share)


class Patterns(Case):
    def test_against_the_places(self):
        for one, other in couples():
            for share in SHARES[:3]:
                found = apart_stretches(list(one), other, share)
                self.assertIs(type(found), tuple)
                for ratio in RATIOS[::7]:
                    least = slow_share(one, other, ratio)
                    self.assertIs(is_in_stretches(found, ratio_from(ratio)), least is None or least >= fraction(share))
                if found:
                    self.assertIs(found[-1].high, None)
                    self.assertEqual(apart_from(one, list(other), share), found[-1].low)
                    if len(one) > 1 and len(other) > 1:
                        self.assertGreaterEqual(fraction(found[0].low), 1 + fraction(share))
                else:
                    self.assertIs(apart_from(one, other, share), None)

    def test_share_and_clash(self):
        for one, other in couples():
            for ratio in RATIOS[::25]:
                least = slow_share(one, other, ratio)
                told = share_at(list(one), other, ratio_from(ratio))
                self.assertEqual(told, None if least is None else ratio_from(least))
                for share in SHARES[::2]:
                    near = [(at, by) for at, place in enumerate(slow_places(one, ratio))
                            for by, far in enumerate(slow_places(other, ratio)) if abs(place - far) < fraction(share)]
                    due = None
                    if near:
                        at, by = near[0]
                        due = tuple((row[:many + 1].count(0), row[:many + 1].count(1)) for row, many in ((one, at), (other, by)))
                    found = clash_at(one, list(other), share, ratio_from(ratio))
                    self.same_tuple(found, due)

    def test_examples(self):
        self.assertEqual(apart_stretches((0, 1), (1, 0), (1, 2)), (Stretch((3, 2), None),))
        self.assertEqual(apart_stretches((0, 0, 0, 1), (1, 0, 0, 0), (1, 2)),
                         (Stretch((3, 2), (3, 2)), Stretch((5, 2), (5, 2)), Stretch((7, 2), None)))
        self.assertEqual(apart_from((0, 0, 0, 1), (1, 0, 0, 0), (1, 2)), (7, 2))
        self.assertEqual(apart_stretches((1,), (0, 1, 0), (1, 1)), ALL)
        self.assertEqual(apart_from((1,), (0, 1, 0), (1, 1)), (1, 1))
        self.assertIs(share_at((1,), (0, 1, 0), (3, 2)), None)
        self.assertIs(clash_at((1,), (0, 1, 0), (1, 1), (3, 2)), None)
        self.assertEqual(apart_stretches((0, 1, 0), (0, 0, 1), (1, 9)), ())

    def test_fifty_bricks(self):
        one = (0,) * 25 + (1,) * 25
        other = one[::-1]
        share = (1, 3)
        found = apart_stretches(one, other, share)
        for ratio in RATIOS[::9]:
            self.assertIs(is_in_stretches(found, ratio_from(ratio)), slow_share(one, other, ratio) >= fraction(share))
        self.assertEqual(found[-1].low, (76, 3))

    def test_far_ratios(self):
        far = (10 ** 250 + 1, 3)
        self.assertEqual(share_at((0, 0, 1), (1, 0, 0), far), (10 ** 250 - 5, 3))
        self.assertIs(clash_at((0, 0, 1), (1, 0, 0), (1, 1), far), None)
        near = (10 ** 250 + 1, 10 ** 250)
        self.assertEqual(share_at((0, 1), (1, 0), near), (1, 10 ** 250))
        self.assertEqual(clash_at((0, 1), (1, 0), (1, 10 ** 249), near), ((1, 0), (0, 1)))
        self.assertIs(clash_at((0, 1), (1, 0), (1, 10 ** 250), near), None)

    def test_refused_in_order(self):
        for function in (apart_stretches, apart_from, share_at):
            self.refused("BadPattern", {"index": 1}, function, (0, 2), (), None)
            self.refused("BadPattern", {"index": 0}, function, (0, 1), (True,), None)
        for function in (apart_stretches, apart_from):
            for share in ((0, 1), (3, 2), *NOT_RATIOS):
                self.refused("BadShare", {"share": share}, function, (0, 1), (1,), share)
        for ratio in ((1, 1), (1, 2), *NOT_RATIOS):
            self.refused("BadBrickRatio", {"ratio": ratio}, share_at, (0, 1), (1,), ratio)
            self.refused("BadBrickRatio", {"ratio": ratio}, clash_at, (0, 1), (1,), (1, 1), ratio)
        self.refused("BadPattern", {"index": 0}, clash_at, None, (), None, None)
        self.refused("BadPattern", {"index": 0}, clash_at, (1,), (), None, None)
        self.refused("BadShare", {"share": (2, 1)}, clash_at, (1,), (1,), (2, 1), None)
