"""[10.1] to [10.3]: ruins and their fillings."""

from itertools import islice, product

from jointsapart.ruins import Ruin, count_fillings, fillings, ruin_of
from jointsapart.stock import Stock
from jointsapart.walls import Wall, is_right
from jointsapart.wallwork import upturned, wall_mirrored
from tests.helper import NOT_SEQUENCES, NOT_WHOLE, Case, slow_fillings, slow_signs

TWO = Stock((2, 3))
THREE = Stock((1, 2, 3), 1, 2)
RUINS = [Ruin(TWO, 5, ("????", "?j??", "????")), Ruin(TWO, 5, ("?j??", "?j??")), Ruin(TWO, 4, ("???",)), Ruin(TWO, 4, ("???", "???")),
         Ruin(THREE, 5, ("????", "j???", "???b")), Ruin(THREE, 4, ("b??", "?j?", "???", "bbb")), Ruin(TWO, 7, ("?" * 6,) * 4),
         Ruin(Stock((1,)), 1, ("", "")), Ruin(Stock((2,)), 1, ("",)), Ruin(Stock((3, 4), 2), 8, ("?" * 7, "??j????", "?" * 7)),
         Ruin(Stock((1, 2, 4), 2, 2), 6, ("?????", "??b??", "?????")), Ruin(THREE, 3, ("jj", "??", "bb", "??", "??", "??")),
         Ruin(Stock((1, 3)), 6, ("jbbjb", "b????", "????j"))]
# More fillings than can be gone through.
MANY = Ruin(Stock((1, 2, 3, 4)), 10, ("?" * 9,) * 6)


class Ruins(Case):
    def test_attributes(self):
        rows = ["?j??", "bbb?"]
        ruin = Ruin(TWO, 5, rows)
        rows.append("????")
        self.same_tuple(ruin.rows, ("?j??", "bbb?"))
        self.assertEqual((ruin.stock, ruin.length, len(ruin)), (TWO, 5, 2))
        self.same_tuple(ruin.seen, ((0, 2), (1, 1), (1, 2), (1, 3)))
        self.assertEqual(Ruin(TWO, 1, [""] * 6).seen, ())

    def test_refused_in_order(self):
        for length in (0, 11, -1, *NOT_WHOLE):
            self.refused("BadRuin", {"index": 0, "what": "length"}, Ruin, TWO, length, None)
        for rows in ((), ("????",) * 7, *NOT_SEQUENCES):
            self.refused("BadRuin", {"index": 0, "what": "many"}, Ruin, TWO, 5, rows)
        for index in range(3):
            for row in ("", "???", "?????", None, 4, b"????", ["?"] * 4, ("?",) * 4):
                rows = ["????"] * 3
                rows[index] = row
                self.refused("BadRuin", {"index": index, "what": "row"}, Ruin, TWO, 5, [*rows[:index + 1], *[None] * (2 - index)])
            for sign in ("J", " ", "x", ".", "\n"):
                rows = ["????"] * 3
                rows[index] = ("???" + sign)[-4:]
                self.refused("BadRuin", {"index": index, "what": "sign"}, Ruin, TWO, 5, [*rows[:index + 1], *[None] * (2 - index)])

    def test_edges(self):
        for length in (1, 2, 10):
            for many in (1, 6):
                ruin = Ruin(TWO, length, ("?" * (length - 1),) * many)
                self.assertEqual((ruin.length, len(ruin)), (length, many))

    def test_equality(self):
        ruin = Ruin(TWO, 5, ("?j??",))
        self.assertIs(ruin == Ruin(Stock([2, 3]), 5, ["?j??"]), True)
        self.assertIs(ruin != Ruin(Stock([2, 3]), 5, ["?j??"]), False)
        for other in (Ruin(Stock((2, 3), 2), 5, ("?j??",)), Ruin(TWO, 5, ("????",)), Ruin(TWO, 5, ("?j??",) * 2), ("?j??",), None):
            self.assertIs(ruin == other, False)
            self.assertIs(ruin != other, True)
        self.assertIs(Ruin(TWO, 1, ("",)) == Ruin(TWO, 2, ("?",)), False)

    def test_with_sign(self):
        ruin = RUINS[4]
        for course in range(3):
            for place in range(1, 5):
                for sign in "jb?":
                    found = ruin.with_sign(course, place, sign)
                    rows = [list(row) for row in ruin.rows]
                    rows[course][place - 1] = sign
                    self.assertEqual(found, Ruin(THREE, 5, ["".join(row) for row in rows]))
        self.assertEqual(ruin, Ruin(THREE, 5, ("????", "j???", "???b")))

    def test_with_sign_refused_in_order(self):
        ruin = RUINS[4]
        for course in (3, -1, *NOT_WHOLE):
            self.refused("NoNumber", {"number": course}, ruin.with_sign, course, None, None)
        for place in (0, 5, -1, *NOT_WHOLE):
            self.refused("NoNumber", {"number": place}, ruin.with_sign, 0, place, None)
        for sign in ("", "jb", "??", "J", None, 1, b"j", ("j",), ["?"]):
            self.refused("BadSign", {}, ruin.with_sign, 2, 4, sign)
        self.refused("NoNumber", {"number": 1}, RUINS[7].with_sign, 0, 1, "j")

    def test_turned(self):
        for ruin in RUINS:
            self.assertEqual(ruin.mirrored(), Ruin(ruin.stock, ruin.length, [row[::-1] for row in ruin.rows]))
            self.assertEqual(ruin.upturned(), Ruin(ruin.stock, ruin.length, ruin.rows[::-1]))
            self.assertEqual(count_fillings(ruin.mirrored()), count_fillings(ruin))
            self.assertEqual(count_fillings(ruin.upturned()), count_fillings(ruin))

    def test_of_walls(self):
        for courses in product(((2, 3), (3, 2)), repeat=3):
            wall = Wall(TWO, courses)
            ruin = ruin_of(wall)
            self.assertEqual(ruin, Ruin(TWO, 5, [slow_signs(course, 5) for course in courses]))
            self.assertEqual(ruin_of(upturned(wall)), ruin.upturned())
            self.assertEqual(ruin_of(wall_mirrored(wall)), ruin.mirrored())
            self.assertEqual(list(fillings(ruin)), [wall] if is_right(wall) else [])
            self.assertEqual(len(ruin.seen), 12)
        self.assertEqual(ruin_of(Wall(Stock((1,)), [(1,)])).rows, ("",))

    def test_of_walls_that_are_too_great(self):
        self.refused("BadRuin", {"index": 0, "what": "length"}, ruin_of, Wall(TWO, [(2, 3, 3, 3)] * 7))
        self.refused("BadRuin", {"index": 0, "what": "many"}, ruin_of, Wall(TWO, [(2, 3)] * 7))
        self.assertEqual(len(ruin_of(Wall(TWO, [(2, 3, 3, 2)] * 6))), 6)


class Fillings(Case):
    def test_against_all_right_walls(self):
        for ruin in RUINS:
            due = slow_fillings(ruin)
            found = list(fillings(ruin))
            self.assertEqual([wall.courses for wall in found], due)
            self.assertEqual({(type(wall), wall.length) for wall in found} - {(Wall, ruin.length)}, set())
            self.assertTrue(all(wall.stock == ruin.stock for wall in found))
            self.assertEqual(count_fillings(ruin), len(due))

    def test_each_sign(self):
        """All ruins of two rows of length 4."""
        for signs in product("jb?", repeat=6):
            for stock in (Stock((1, 2, 3)), Stock((1, 3), 2)):
                ruin = Ruin(stock, 4, ("".join(signs[:3]), "".join(signs[3:])))
                due = slow_fillings(ruin)
                self.assertEqual(count_fillings(ruin), len(due))
                self.assertEqual([wall.courses for wall in fillings(ruin)], due)

    def test_example(self):
        self.assertEqual([wall.courses for wall in fillings(RUINS[0])], [((3, 2), (2, 3), (3, 2))])
        self.assertEqual(count_fillings(RUINS[1]), 0)

    def test_more_than_can_be_gone_through(self):
        self.assertEqual(count_fillings(MANY), 1247616194)
        found = list(islice(fillings(MANY), 500))
        self.assertEqual([wall.courses for wall in found], sorted({wall.courses for wall in found}))
        self.assertTrue(all(map(is_right, found)))
        # Hardly any beginning leads to a row of these signs.
        ruin = MANY.with_sign(5, 1, "j").with_sign(5, 2, "j").with_sign(5, 3, "j").with_sign(4, 5, "j")
        first = next(iter(fillings(ruin)))
        self.assertEqual(slow_signs(first.courses[5], 10)[:3], "jjj")

    def test_reach_above_the_rows(self):
        ruin = Ruin(Stock((1, 2), 1, 2), 4, ("???",))
        self.assertEqual(count_fillings(ruin), 5)
