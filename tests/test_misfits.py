"""[10.5]: seen spots that no right wall has together."""

from itertools import combinations, product

from jointsapart.misfits import least_misfits
from jointsapart.ruins import Ruin, count_fillings
from jointsapart.stock import Stock
from tests.helper import Case, slow_signs, slow_walls
from tests.test_ruins import MANY, RUINS, THREE, TWO


def slow_misfits(ruin):
    """All least misfits, by going through all parts of the seen spots and all right walls."""
    walls = [[slow_signs(course, ruin.length) for course in courses]
             for courses in slow_walls(ruin.stock, ruin.length, len(ruin.rows))]
    found = []
    for many in range(len(ruin.seen) + 1):
        for spots in combinations(ruin.seen, many):
            fits = any(all(rows[course][place - 1] == ruin.rows[course][place - 1] for course, place in spots) for rows in walls)
            if not fits and not any(set(part) <= set(spots) for part in found):
                found.append(spots)
    return tuple(found)


class Misfits(Case):
    def test_against_all_right_walls(self):
        for ruin in RUINS:
            if len(ruin.seen) <= 8:
                self.same_tuple(least_misfits(ruin), slow_misfits(ruin))

    def test_all_signs(self):
        for signs in product("jb?", repeat=6):
            for stock in (Stock((1, 3)), Stock((2, 3), 1, 2)):
                ruin = Ruin(stock, 4, ("".join(signs[:3]), "".join(signs[3:])))
                self.same_tuple(least_misfits(ruin), slow_misfits(ruin))

    def test_several_misfits_of_unlike_lengths(self):
        ruin = Ruin(THREE, 5, ("jjb?", "j??b", "bb?j"))
        self.assertEqual(len(ruin.seen), 8)
        found = least_misfits(ruin)
        self.same_tuple(found, slow_misfits(ruin))
        self.assertGreater(len({len(spots) for spots in found}), 1)
        self.assertEqual(found, tuple(sorted(found, key=lambda spots: (len(spots), spots))))

    def test_example(self):
        self.assertEqual(least_misfits(RUINS[1]), (((0, 2), (1, 2)),))

    def test_a_ruin_with_a_filling_has_none(self):
        for ruin in RUINS:
            if len(ruin.seen) <= 8:
                self.assertIs(least_misfits(ruin) == (), count_fillings(ruin) > 0)
        self.assertEqual(least_misfits(MANY.with_sign(3, 3, "j")), ())

    def test_no_right_wall_of_the_kind_at_all(self):
        # Both of two courses of length 4 would have to be (2, 2).
        self.assertEqual(least_misfits(Ruin(TWO, 4, ("?j?", "???"))), ((),))
        self.assertEqual(least_misfits(Ruin(TWO, 4, ("???", "???"))), ((),))
        self.assertEqual(least_misfits(Ruin(TWO, 1, ("",))), ((),))
        self.assertEqual(least_misfits(Ruin(TWO, 4, ("?j?",))), ())
        self.assertEqual(least_misfits(Ruin(TWO, 4, ("j?b",))), (((0, 1),),))

    def test_8_and_9_seen_spots(self):
        ruin = Ruin(Stock((1, 2, 3, 4)), 10, ("j?b??????", "?j?????bb", "?" * 9, "?????????", "bb???????", "????????j"))
        self.assertEqual(len(ruin.seen), 8)
        self.assertEqual(least_misfits(ruin), ())
        self.refused("ManySeen", {}, least_misfits, ruin.with_sign(2, 2, "j"))
        self.refused("ManySeen", {}, least_misfits, Ruin(TWO, 4, ("jjj",) * 3))
        # Two misfits of two spots each, and signs that fit everything.
        ruin = ruin.with_sign(0, 2, "j").with_sign(1, 8, "?")
        self.assertEqual(least_misfits(ruin), (((0, 2), (1, 2)),))
