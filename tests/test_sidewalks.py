"""[7.5] and [7.6]: sides by any corner word."""

from itertools import product

from jointsapart.sides import corner_clash, exchange_corners, side_calendar, standard_corners
from jointsapart.sidewalks import Tallest, Walk, side_walk, walk_course, walk_fault
from jointsapart.stock import Stock
from tests.helper import NOT_SEQUENCES, NOT_WHOLE, Case, slow_courses, slow_faces_apart
from tests.test_sides import NOT_WORDS

STOCKS = [Stock((2, 3)), Stock((2, 3), 1, 2), Stock((1, 3), 1, 2), Stock((3, 4), 2), Stock((1, 2, 4), 2, 2), Stock((1,)),
          Stock((4, 6), 2, 2), Stock((5,), 4, 2), Stock((3, 5, 8), 2, 1), Stock((2, 7), 1, 2)]
TWO = Stock((2, 3))
WORDS = ["".join(letters) for many in range(2, 7) for letters in product("pbm", repeat=many)]


def slow_graph(stock, breadth, side, word):
    """Each (place, last faces) that can be come to from the beginning, with those that can come of it."""
    rows = {letter: [(letter, course) for course in slow_courses(stock.bricks, side - 2 * breadth if letter == "b" else side)]
            for letter in word}
    after = {}
    waiting = [(0, ())]
    while waiting:
        state = waiting.pop()
        if state not in after:
            place, top = state
            after[state] = [((place + 1) % len(word), (top + (face,))[-stock.reach:]) for face in rows[word[place]]
                            if all(slow_faces_apart(stock, breadth, face, other) for other in top)]
            waiting += after[state]
    return after


def slow_walk(stock, breadth, side, word):
    """("walk", fewest courses) or ("tallest", most courses), by going through all ways."""
    after = slow_graph(stock, breadth, side, word)
    fewest = None
    for first in [state for state in after if state[0] == 0]:
        crowd = {first}
        steps = 0
        seen = set()
        while crowd and (fewest is None or steps < fewest):
            crowd = {state for last in crowd for state in after[last]} - seen
            seen |= crowd
            steps += 1
            if first in crowd:
                fewest = steps if fewest is None else min(fewest, steps)
                break
    if fewest is not None:
        return ("walk", fewest)
    crowd = {(0, ())}
    steps = -1
    while crowd:
        steps += 1
        crowd = {state for last in crowd for state in after[last]}
    return ("tallest", steps)


class Walks(Case):
    def check(self, stock, breadth, side, word, found):
        kind, many = slow_walk(stock, breadth, side, word)
        self.assertEqual(found.corners, word)
        self.same_tuple(found.courses, found.courses)
        self.assertEqual(len(found.courses), many)
        if kind == "walk":
            self.assertIs(type(found), Walk)
            self.assertIs(walk_fault(stock, breadth, side, found), None)
        else:
            self.assertIs(type(found), Tallest)
            faces = [(word[number % len(word)], course) for number, course in enumerate(found.courses)]
            for number, face in enumerate(faces):
                self.assertIn(face[1], slow_courses(stock.bricks, side - 2 * breadth if face[0] == "b" else side))
                for by in range(1, stock.reach + 1):
                    if number + by < many:
                        self.assertTrue(slow_faces_apart(stock, breadth, face, faces[number + by]))

    def test_against_all_ways(self):
        for at, stock in enumerate(STOCKS):
            for number, word in enumerate(WORDS[at::19]):
                breadth = (1, 1, 2, 3)[number % 4]
                side = min(2 * breadth + 1 + number % 6, 8)
                self.check(stock, breadth, side, word, side_walk(stock, breadth, side, word))

    def test_longer_sides(self):
        for stock, side, word in ((STOCKS[0], 10, "pbpmm"), (STOCKS[1], 9, "pbm"), (STOCKS[3], 10, "ppm"), (STOCKS[6], 10, "pmbpm"),
                                  (STOCKS[8], 10, "ppppb"), (STOCKS[9], 10, "pbpmpm"),
                                  # Here some states stand in longer rings alone.
                                  (Stock((3, 4, 5, 7), 2), 10, "ppb"), (Stock((1, 2, 3)), 9, "pbppb"),
                                  (Stock((2, 3)), 10, "bmppp"), (Stock((3, 4, 5, 7), 2), 10, "pbp"),
                                  (Stock((2, 3)), 10, "mpppb"), (Stock((2, 3)), 10, "ppbmp")):
            self.check(stock, 1, side, word, side_walk(stock, 1, side, word))

    def test_standard_word(self):
        for stock in STOCKS:
            for breadth in range(1, 5):
                for side in range(2 * breadth + 1, 11):
                    found = side_walk(stock, breadth, side)
                    self.assertEqual(found.corners, standard_corners(stock))
                    self.assertIs(isinstance(found, Walk), side in side_calendar(stock, breadth))
                    if isinstance(found, Walk):
                        self.assertEqual(len(found.courses), stock.reach + 1)
                        self.assertIs(walk_fault(stock, breadth, side, found), None)

    def test_words_with_a_corner_clash_have_no_walk(self):
        for stock in STOCKS[:3]:
            for word in WORDS[::5]:
                if corner_clash(stock, word) is not None:
                    self.assertIs(type(side_walk(stock, 1, 6, word)), Tallest)

    def test_words_begun_elsewhere_or_laid_twice(self):
        for stock in STOCKS:
            for word in WORDS[::41]:
                due = type(side_walk(stock, 1, 7, word))
                for begin in range(1, len(word)):
                    self.assertIs(type(side_walk(stock, 1, 7, word[begin:] + word[:begin])), due)
                if len(word) < 4:
                    self.assertIs(type(side_walk(stock, 1, 7, word * 2)), due)

    def test_more_courses_than_letters(self):
        # Two courses alone are apart, and the word has three letters.
        found = side_walk(TWO, 1, 5, "ppm")
        self.assertEqual(len(found.courses), 6)
        self.assertEqual(len(side_walk(TWO, 1, 5, "pp").courses), 2)

    def test_no_first_course(self):
        stock = Stock((5,), 4, 2)
        found = side_walk(stock, 1, 4, "pm")
        self.assertEqual((type(found), found.corners, found.courses), (Tallest, "pm", ()))
        self.assertEqual(side_walk(stock, 1, 7, "bp").courses, ((5,),))
        # A course of one brick is apart from itself.
        self.assertEqual(side_walk(stock, 1, 5, "pm").courses, ((5,), (5,)))

    def test_refused_in_order(self):
        walk = side_walk(TWO, 1, 7)
        for breadth in (0, 5, *NOT_WHOLE):
            self.refused("BadBreadth", {}, side_walk, TWO, breadth, None, "x")
            self.refused("BadBreadth", {}, walk_fault, TWO, breadth, None, walk)
        for breadth in range(1, 5):
            for side in (2 * breadth, 11, -1, *NOT_WHOLE):
                self.refused("BadLength", {}, side_walk, TWO, breadth, side, "x")
            for side in (2 * breadth, 401, -1, *NOT_WHOLE):
                self.refused("BadLength", {}, walk_fault, TWO, breadth, side, walk)
        for word in NOT_WORDS:
            if word is not None:
                self.refused("BadCorners", {}, side_walk, TWO, 1, 7, word)
        self.assertEqual(side_walk(TWO, 1, 7, None).corners, "pb")
        self.assertEqual(side_walk(TWO, 4, 9).corners, "pb")


class Courses(Case):
    def test_walk_course(self):
        walk = Walk("pbm", ("a", "b", "c", "d", "e", "f"))
        self.assertEqual([walk_course(walk, number) for number in range(8)],
                         [("p", "a"), ("b", "b"), ("m", "c"), ("p", "d"), ("b", "e"), ("m", "f"), ("p", "a"), ("b", "b")])
        self.assertEqual(walk_course(walk, 10 ** 30), ("pbm"[10 ** 30 % 3], "abcdef"[10 ** 30 % 6]))
        for number in (-1, 10 ** 30 + 1, *NOT_WHOLE):
            self.refused("NoNumber", {"number": number}, walk_course, walk, number)

    def test_results_keep_what_they_are_given(self):
        word, courses = [], []
        for kind in (Walk, Tallest):
            self.assertIs(kind(word, courses).corners, word)
            self.assertIs(kind(word, courses).courses, courses)


class Fault(Case):
    GOOD = ((2, 2, 3), (2, 3))

    def check(self, word, corners, courses, side=7, breadth=1, stock=TWO):
        self.assertEqual(walk_fault(stock, breadth, side, Walk(corners, courses)), word)

    def test_right_things_that_the_program_does_not_make(self):
        self.check(None, "pb", self.GOOD)
        self.check(None, "pb", self.GOOD * 5)
        self.check(None, "pb", [list(course) for course in self.GOOD])
        self.check(None, "pbpb", self.GOOD * 2)
        self.check(None, "bp", self.GOOD[::-1])
        # A long side, of as many places as are let.
        one = (2,) * 200
        other = (3, *(2,) * 197, 3)
        self.check(None, "pm", (one, other), 400)
        self.check("clash", "pm", (one, one), 400)
        self.check("length", "pm", (one, one), 399)

    def test_corners(self):
        for word in NOT_WORDS:
            self.check("corners", word, self.GOOD)
            self.check("corners", word, ())

    def test_many(self):
        for courses in ((), self.GOOD[:1], self.GOOD + self.GOOD[:1], *NOT_SEQUENCES):
            self.check("many", "pb", courses)
        self.check("many", "pbp", self.GOOD)

    def test_course_and_length(self):
        for wrong in ((), (4, 3), (2, 2, True), None, 5):
            self.check("course", "pb", (self.GOOD[0], wrong))
            self.check("course", "pb", (wrong, (2, 2)))
        self.check("length", "pb", (self.GOOD[0], (2, 2)))
        self.check("length", "pb", (self.GOOD[0], self.GOOD[0]))
        # Course by course: both words of one come before those of the next.
        self.check("length", "pb", ((2, 2), (9,)))
        self.check("course", "pb", ((9,), (2, 2)))

    def test_clash(self):
        self.check("clash", "pb", ((2, 2, 3), (3, 2)))
        self.check("clash", "pb", (*self.GOOD, (3, 2, 2), (3, 2)))
        three = Stock((2, 3), 1, 2)
        # At reach 2 the third course counts, too, and behind the last one the first ones again.
        self.check("clash", "pb", self.GOOD, stock=three)
        self.check("clash", "pp", ((2, 2, 3), (3, 2, 2)), stock=three)
        self.check(None, "pp", ((2, 2, 3), (3, 2, 2)))
        self.check("clash", "ppp", ((2, 2, 3), (3, 2, 2), (2, 2, 3)))
        # A face and its own repetition: at reach 2 the courses of a walk of two come again two further on.
        five = Stock((5,), 1, 2)
        self.check(None, "pm", ((5,), (5,)), 5, 1, five)
        self.check("clash", "bp", ((5,), (7,)), 7, 1, Stock((5, 7), 1, 2))
        self.check(None, "bp", ((5,), (7,)), 7, 1, Stock((5, 7), 1, 1))

    def test_each_walk_with_one_course_changed(self):
        """Judged as all faces at most the reach apart, the walk laid three times."""
        for stock, word in ((TWO, "pbm"), (Stock((2, 3), 1, 2), "pm"), (Stock((1, 3), 1, 2), "pmb"), (Stock((2, 3), 1, 2), "pbm")):
            rows = [slow_courses(stock.bricks, 5 if letter == "b" else 7) for letter in word]
            for courses in product(*rows):
                faces = list(zip(word * 3, courses * 3))
                right = all(slow_faces_apart(stock, 1, faces[number], faces[number + by])
                            for number in range(len(courses)) for by in range(1, stock.reach + 1))
                self.check(None if right else "clash", word, courses, stock=stock)

    def test_exchanged(self):
        for stock in STOCKS[:4]:
            for word in ("pb", "pbm", "pmb"):
                found = side_walk(stock, 1, 8, exchange_corners(word))
                if isinstance(found, Walk):
                    self.assertIs(walk_fault(stock, 1, 8, found), None)
                    self.assertIn(walk_fault(stock, 1, 8, Walk(word, found.courses)), ("course", "length", "clash"))
