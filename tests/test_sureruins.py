"""[10.4]: what is alike in all fillings of a ruin."""

from jointsapart.ruins import Ruin, count_fillings
from jointsapart.stock import Stock
from jointsapart.sureruins import sure_rows, two_fillings
from jointsapart.walls import Wall
from tests.helper import NOT_WHOLE, Case, slow_fillings, slow_signs
from tests.test_ruins import MANY, RUINS, THREE, TWO


class Sure(Case):
    def test_against_all_fillings(self):
        for ruin in RUINS:
            signs = [[slow_signs(course, ruin.length) for course in courses] for courses in slow_fillings(ruin)]
            if not signs:
                self.refused("NoFilling", {}, sure_rows, ruin)
                continue
            due = []
            for at, row in enumerate(ruin.rows):
                told = [{rows[at][by] for rows in signs} for by in range(len(row))]
                due.append("".join(min(both) if len(both) == 1 else "?" for both in told))
            self.same_tuple(sure_rows(ruin), tuple(due))

    def test_seen_signs_stay(self):
        self.assertEqual(sure_rows(RUINS[0]), ("bbjb", "bjbb", "bbjb"))
        self.assertEqual(sure_rows(Ruin(TWO, 7, ("?" * 6,))), ("b" + "?" * 4 + "b",))
        self.assertEqual(sure_rows(Ruin(Stock((1,)), 1, ("",))), ("",))

    def test_with_very_many_fillings(self):
        self.assertEqual(sure_rows(MANY), MANY.rows)
        self.assertEqual(sure_rows(MANY.with_sign(2, 4, "j"))[1:4], ("???b?????", "???j?????", "???b?????"))

    def test_j_is_sure_exactly_if_there_is_no_filling_with_b(self):
        for ruin in RUINS:
            if count_fillings(ruin):
                rows = sure_rows(ruin)
                for course, row in enumerate(ruin.rows):
                    for place in range(1, ruin.length):
                        if row[place - 1] == "?":
                            joints = count_fillings(ruin.with_sign(course, place, "j"))
                            bricks = count_fillings(ruin.with_sign(course, place, "b"))
                            self.assertEqual(joints + bricks, count_fillings(ruin))
                            self.assertIs(rows[course][place - 1] == "j", bricks == 0)
                            self.assertIs(rows[course][place - 1] == "b", joints == 0)


class Two(Case):
    def test_against_all_fillings(self):
        for ruin in RUINS:
            walls = slow_fillings(ruin)
            for course in range(len(ruin)):
                for place in range(1, ruin.length):
                    if not walls:
                        self.refused("NoFilling", {}, two_fillings, ruin, course, place)
                        continue
                    found = two_fillings(ruin, course, place)
                    told = [[courses for courses in walls if slow_signs(courses[course], ruin.length)[place - 1] == sign]
                            for sign in "jb"]
                    if all(told):
                        self.assertIs(type(found), tuple)
                        self.assertEqual([type(wall) for wall in found], [Wall, Wall])
                        self.assertEqual([wall.courses for wall in found], [told[0][0], told[1][0]])
                    else:
                        self.assertIs(found, None)

    def test_refused_in_order(self):
        for ruin in (RUINS[1], RUINS[4]):
            for course in (len(ruin), -1, *NOT_WHOLE):
                self.refused("NoNumber", {"number": course}, two_fillings, ruin, course, None)
            for place in (0, ruin.length, *NOT_WHOLE):
                self.refused("NoNumber", {"number": place}, two_fillings, ruin, 0, place)
        self.refused("NoFilling", {}, two_fillings, RUINS[1], 0, 2)
        self.assertIs(two_fillings(RUINS[0], 0, 2), None)

    def test_first_ones(self):
        ruin = Ruin(THREE, 4, ("???",))
        joint, brick = two_fillings(ruin, 0, 2)
        self.assertEqual((joint.courses, brick.courses), (((1, 1, 1, 1),), ((1, 2, 1),)))
