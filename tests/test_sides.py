"""[7.1] to [7.4]: the sides of towers."""

from itertools import product

from jointsapart.calendars import Calendar, serves
from jointsapart.sides import (corner_clash, exchange_corners, face_joints, side_calendar, side_clash, side_round,
                               standard_corners)
from jointsapart.stock import Stock
from tests.helper import NOT_SEQUENCES, NOT_WHOLE, Case, slow_courses, slow_face, slow_faces_apart

STOCKS = [Stock((2, 3)), Stock((2, 3), 1, 2), Stock((1, 2, 4), 2), Stock((1, 3), 1, 2), Stock((3, 4), 2), Stock((3, 5, 8), 2, 2),
          Stock((1,), 1), Stock((8,), 3), Stock((5, 7), 4, 2), Stock((1, 2), 1, 2), Stock((4, 6, 7), 3, 2)]
TWO = Stock((2, 3))
NOT_WORDS = ("", "p", "ppppppp", "pbx", "PB", "p b", None, 5, True, b"pb", ("p", "b"), ["p", "b"])


def slow_round(stock, breadth, side):
    """The first courses in the order of the standard word, by trying each choice."""
    letters = "pbm"[:stock.reach + 1]
    rows = [slow_courses(stock.bricks, side - 2 * breadth if letter == "b" else side) for letter in letters]
    found = [()]
    for letter, courses in zip(letters, rows):
        found = [(*lot, course) for lot in found for course in courses
                 if all(slow_faces_apart(stock, breadth, (letters[at], one), (letter, course)) for at, one in enumerate(lot))]
    return found[0] if found else None


class Corners(Case):
    def test_standard(self):
        for stock in STOCKS:
            self.assertEqual(standard_corners(stock), "pb" if stock.reach == 1 else "pbm")

    def test_exchange(self):
        for many in range(2, 7):
            for letters in product("pbm", repeat=many):
                word = "".join(letters)
                other = exchange_corners(word)
                self.assertEqual(other, word.translate({ord("p"): "b", ord("b"): "p"}))
                self.assertEqual(exchange_corners(other), word)

    def test_clash(self):
        for stock in (TWO, Stock((2, 3), 1, 2)):
            for many in range(2, 7):
                for letters in product("pbm", repeat=many):
                    word = "".join(letters)
                    places = [(first, first + by) for first in range(many) for by in range(1, stock.reach + 1)
                              if word[first] == "b" == (word * 2)[first + by]]
                    self.same_tuple(corner_clash(stock, word), min(places, default=None))
        self.assertEqual(corner_clash(Stock((2, 3), 1, 2), "pb"), (1, 3))
        self.assertIs(corner_clash(TWO, "pb"), None)
        self.assertEqual(corner_clash(TWO, "bpb"), (2, 3))
        self.assertEqual(corner_clash(TWO, "bb"), (0, 1))

    def test_refused(self):
        for word in NOT_WORDS:
            self.refused("BadCorners", {}, exchange_corners, word)
            self.refused("BadCorners", {}, corner_clash, TWO, word)


class Faces(Case):
    def test_joints(self):
        for breadth in range(1, 5):
            for course in ((2, 3), [3, 2, 2], (1,), (8, 8)):
                for letter in "pbm":
                    due = tuple(slow_face(breadth, letter, course))
                    self.same_tuple(face_joints(breadth, (letter, course)), due)
                    self.same_tuple(face_joints(breadth, [letter, list(course)]), due)
        self.assertEqual(face_joints(2, ("b", (2, 3))), (2, 4, 7))
        self.assertEqual(face_joints(2, ("m", (2, 3))), (2,))
        self.assertEqual(face_joints(1, ("b", (1,))), (1, 2))

    def test_clash(self):
        for stock in STOCKS[:5]:
            for breadth in (1, 2):
                faces = [(letter, course) for letter in "pbm" for course in
                         slow_courses(stock.bricks, 8 - 2 * breadth if letter == "b" else 8)]
                for one in faces[::3]:
                    for other in faces[::2]:
                        near = [(joint, place) for joint in slow_face(breadth, *one) for place in slow_face(breadth, *other)
                                if abs(joint - place) < stock.lap]
                        self.same_tuple(side_clash(stock, breadth, one, list(other)), min(near, default=None))
                        if one[0] == other[0] == "b":
                            self.assertEqual(side_clash(stock, breadth, one, other), (breadth, breadth))

    def test_corner_joints_near_to_one_another(self):
        # The two corner joints are 2 apart, and the lap is 3: the joint 5 is near to both, 3 alone to the first.
        stock = Stock((2, 3, 5), 3)
        self.assertEqual(side_clash(stock, 4, ("b", (2,)), ("p", (5, 5))), (4, 5))
        self.assertEqual(side_clash(stock, 4, ("b", (2,)), ("p", (2, 3, 5))), (4, 2))
        self.assertEqual(side_clash(stock, 4, ("p", (5, 5)), ("b", (2,))), (5, 4))
        self.assertEqual(side_clash(stock, 4, ("b", (2,)), ("b", (2,))), (4, 4))

    def test_refused_in_order(self):
        good = ("p", (2, 3))
        for breadth in (0, 5, -1, *NOT_WHOLE):
            self.refused("BadBreadth", {}, face_joints, breadth, good)
            self.refused("BadBreadth", {}, side_clash, TWO, breadth, None, None)
            self.refused("BadBreadth", {}, side_round, TWO, breadth, None)
            self.refused("BadBreadth", {}, side_calendar, TWO, breadth)
        for face in ((), ("p",), ("p", (2, 3), 1), *NOT_SEQUENCES):
            self.refused("BadFace", {"what": "face"}, side_clash, TWO, 1, face, None)
            self.refused("BadFace", {"what": "face"}, side_clash, TWO, 1, good, face)
        for letter in ("x", "", "P", "pb", None, 1, True, ["p"], b"p"):
            self.refused("BadFace", {"what": "letter"}, side_clash, TWO, 1, (letter, ()), None)
            self.refused("BadFace", {"what": "letter"}, side_clash, TWO, 1, good, (letter, ()))
        for course in ((), (4,), (2, True), (3,) * 134, *NOT_SEQUENCES):
            self.refused("BadFace", {"what": "course"}, side_clash, TWO, 1, ("b", course), None)
            self.refused("BadFace", {"what": "course"}, side_clash, TWO, 1, good, ["m", course])
        self.refused("UnlikeLengths", {}, side_clash, TWO, 1, good, ("p", (2, 2)))
        self.refused("UnlikeLengths", {}, side_clash, TWO, 1, good, ("b", (2, 3)))
        self.refused("UnlikeLengths", {}, side_clash, TWO, 2, ("b", (2,)), ("p", (2, 2)))
        self.assertIs(side_clash(TWO, 1, good, ("b", (3,))), None)


class Rounds(Case):
    def test_against_each_choice(self):
        for stock in STOCKS:
            for breadth in range(1, 5):
                for side in range(2 * breadth + 1, 11):
                    self.same_tuple(side_round(stock, breadth, side), slow_round(stock, breadth, side))
        for stock in STOCKS[:2] + STOCKS[4:6]:
            for side in (11, 12):
                self.same_tuple(side_round(stock, 2, side), slow_round(stock, 2, side))

    def test_calendar_against_each_choice(self):
        for stock in STOCKS:
            for breadth in range(1, 5):
                calendar = side_calendar(stock, breadth)
                self.assertIs(type(calendar), Calendar)
                for side in range(13):
                    due = side > 2 * breadth and side_round(stock, breadth, side) is not None
                    self.assertIs(serves(calendar, side), due, (stock.bricks, stock.lap, stock.reach, breadth, side))
        for stock in (STOCKS[0], STOCKS[4], STOCKS[7], STOCKS[8], STOCKS[10]):
            for breadth in (1, 3):
                calendar = side_calendar(stock, breadth)
                for side in range(13, 19 if stock.reach == 1 else 17):
                    self.assertIs(serves(calendar, side), slow_round(stock, breadth, side) is not None)

    def test_all_sides(self):
        calendar = side_calendar(TWO, 1)
        self.assertEqual((calendar.before, calendar.lengths, calendar.period, calendar.rests), (4, (), 1, (0,)))
        self.assertIs(10 ** 30 in calendar, True)
        # Bricks of 8 alone: the joints of the passing course and those of the butting one, 3 further on, by eights.
        calendar = side_calendar(Stock((8,), 3), 4)
        self.assertEqual((calendar.before, calendar.lengths, calendar.period, calendar.rests), (9, (), 8, (0,)))
        self.assertEqual(side_calendar(Stock((1,)), 2), Calendar(0, (), 1, ()))
        self.assertEqual(side_round(Stock((8,), 3), 2, 12), None)

    def test_edges(self):
        for breadth in range(1, 5):
            for side in (0, 2 * breadth, 13, -1, *NOT_WHOLE):
                self.refused("BadLength", {}, side_round, TWO, breadth, side)
            for side in (2 * breadth + 1, 12):
                self.same_tuple(side_round(TWO, breadth, side), slow_round(TWO, breadth, side))
        self.assertEqual(side_round(TWO, 1, 7), ((2, 2, 3), (2, 3)))
        self.assertEqual(side_round(Stock((2, 3), 1, 2), 1, 7), slow_round(Stock((2, 3), 1, 2), 1, 7))
