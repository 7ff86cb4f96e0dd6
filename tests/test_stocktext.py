"""[1.11]: texts of one row."""

from jointsapart.stock import Stock
from jointsapart.stocktext import course_of, course_text, stock_of, stock_text
from tests.helper import Case, slow_courses

NOT_TEXTS = (None, 3, True, b"2 3", ["2 3"], ("2",), 2.0)


class StockTexts(Case):
    def test_written(self):
        self.assertEqual(stock_text(Stock((2, 3))), "2 3 lap 1 reach 1")
        self.assertEqual(stock_text(Stock((1, 4, 7, 8), 4, 2)), "1 4 7 8 lap 4 reach 2")
        self.assertEqual(stock_text(Stock((8,), 3, 2)), "8 lap 3 reach 2")

    def test_read_back(self):
        for bricks in ((1,), (8,), (2, 3), (1, 2, 3, 4), (1, 8)):
            for lap in (1, 4):
                for reach in (1, 2):
                    stock = Stock(bricks, lap, reach)
                    self.assertEqual(stock_of(stock_text(stock)), stock)

    def test_no_string(self):
        for thing in NOT_TEXTS:
            self.refused("BadText", {"number": 0, "what": "text"}, stock_of, thing)

    def test_shape(self):
        for text in ("", " ", "2", "2 3", "lap 1 reach 1", " lap 1 reach 1", "2 3 lap 1", "2 3 lap 1 reach", "2 lap reach 1",
                     "2 lap 1 reach 1 ", " 2 lap 1 reach 1", "2  3 lap 1 reach 1", "2 3 lap 1  reach 1", "2 lap 1 lap 1",
                     "2 reach 1 lap 1", "0 lap 1 reach 1", "02 lap 1 reach 1", "2 lap 0 reach 1", "2 lap 1 reach 0",
                     "2 lap 01 reach 1", "1000 lap 1 reach 1", "2 lap 1000 reach 1", "-2 lap 1 reach 1", "2.0 lap 1 reach 1",
                     "two lap 1 reach 1", "2 Lap 1 reach 1", "2 lap 1 reach 1\n", "2,3 lap 1 reach 1", "2\n3 lap 1 reach 1",
                     "2 lap 1 reach 1 reach 1", "+2 lap 1 reach 1", "1_0 lap 1 reach 1", "2 x 1 reach 1", "2 lap 1 x 1"):
            self.refused("BadText", {"number": 0, "what": "shape"}, stock_of, text)

    def test_stock(self):
        for text in ("9 lap 1 reach 1", "999 lap 1 reach 1", "100 lap 1 reach 1", "3 2 lap 1 reach 1", "2 2 lap 1 reach 1",
                     "1 2 3 4 5 lap 1 reach 1", "2 lap 5 reach 1", "2 lap 1 reach 3", "2 lap 999 reach 999"):
            self.refused("BadText", {"number": 0, "what": "stock"}, stock_of, text)


class CourseTexts(Case):
    def test_written(self):
        self.assertEqual(course_text((2, 3, 2)), "2 3 2")
        self.assertEqual(course_text([8]), "8")

    def test_read_back(self):
        stock = Stock((2, 3, 5))
        for course in slow_courses(stock.bricks, 12):
            self.same_tuple(course_of(stock, course_text(course)), course)
        self.assertEqual(course_of(Stock((1,)), " ".join(["1"] * 400)), (1,) * 400)

    def test_no_string(self):
        for thing in NOT_TEXTS:
            self.refused("BadText", {"number": 0, "what": "text"}, course_of, Stock((2, 3)), thing)

    def test_shape(self):
        for text in ("", " ", "2 ", " 2", "2  3", "2,3", "02", "0", "2 0", "1000", "-2", "2.0", "two", "2\n", "2\n3", "2\t3",
                     "9 x", "2 3 lap"):
            self.refused("BadText", {"number": 0, "what": "shape"}, course_of, Stock((2, 3)), text)

    def test_course(self):
        stock = Stock((1, 2))
        for text in ("3", "1 2 3", "999", "10", " ".join(["1"] * 401), " ".join(["2"] * 201)):
            self.refused("BadText", {"number": 0, "what": "course"}, course_of, stock, text)
