"""[1.12], [1.13]: texts and pictures of walls."""

from jointsapart.stock import Stock
from jointsapart.walls import Wall
from jointsapart.walltext import wall_of, wall_picture, wall_seen, wall_text
from tests.helper import Case, slow_courses

STOCK = Stock((2, 3))
NOT_TEXTS = (None, 3, True, b"2 3", ["2 3"], ("2",), 2.0)


class Texts(Case):
    def test_written(self):
        self.assertEqual(wall_text(Wall(STOCK, [(2, 3), (3, 2)])), "2 3\n3 2")
        self.assertEqual(wall_text(Wall(STOCK, [(3,)])), "3")

    def test_read_back(self):
        for length in (2, 5, 7):
            wall = Wall(STOCK, slow_courses(STOCK.bricks, length))
            self.assertEqual(wall_of(STOCK, wall_text(wall)), wall)
        long = Wall(Stock((1, 2)), [[1] * 400] * 60)
        self.assertEqual(wall_of(Stock((1, 2)), wall_text(long)), long)

    def test_the_stock_is_the_one_passed(self):
        self.assertEqual(wall_of(Stock((2, 3), 2, 2), "2 3").stock, Stock((2, 3), 2, 2))

    def test_no_string(self):
        for thing in NOT_TEXTS:
            self.refused("BadText", {"number": 0, "what": "text"}, wall_of, STOCK, thing)

    def test_many(self):
        self.assertEqual(len(wall_of(STOCK, "\n".join(["2"] * 60))), 60)
        for text in ("\n".join(["2"] * 61), "\n".join(["2"] * 60) + "\n", "x\n" * 60, "\n" * 60):
            self.refused("BadText", {"number": 0, "what": "many"}, wall_of, STOCK, text)

    def test_row_by_row(self):
        for text, number, what in (
                ("", 0, "shape"), ("\n", 0, "shape"), ("2 3\n", 1, "shape"), ("2 3\n\n3 2", 1, "shape"),
                ("2 3\n 3 2", 1, "shape"), ("2 3\n3 2 ", 1, "shape"), ("2 3\r\n3 2", 0, "shape"), ("2 3\n3  2", 1, "shape"),
                ("2 03\n9", 0, "shape"), ("2 3\n9\nx", 1, "course"), ("4", 0, "course"), ("2 3\n3 2\n2 2 9", 2, "course"),
                ("2 3\n2 2\nx", 1, "length"), ("2 3\n3 2\n3\n9", 2, "length"), ("2 3\nx\n3", 1, "shape")):
            self.refused("BadText", {"number": number, "what": what}, wall_of, STOCK, text)
        self.refused("BadText", {"number": 1, "what": "course"}, wall_of, Stock((2,)), "2\n" + " ".join(["2"] * 201))


class Pictures(Case):
    def test_seen_as_told(self):
        self.assertEqual(wall_picture(Wall(STOCK, [(2, 3)])), "|___|_____|")
        self.assertEqual(wall_picture(Wall(STOCK, [(2, 3), (3, 2)])), "|_____|___|\n|___|_____|")
        self.assertEqual(wall_picture(Wall(Stock((1,)), [(1,)])), "|_|")

    def test_every_sign(self):
        stock = Stock((1, 2, 3))
        for course in slow_courses(stock.bricks, 8):
            joints = {sum(course[:many]) for many in range(len(course) + 1)}
            due = "".join("|" if at % 2 == 0 and at // 2 in joints else "_" for at in range(17))
            self.assertEqual(wall_picture(Wall(stock, [course])), due)

    def test_read_back(self):
        for length in (2, 5, 7):
            wall = Wall(STOCK, slow_courses(STOCK.bricks, length))
            self.assertEqual(wall_seen(STOCK, wall_picture(wall)), wall)
        long = Wall(Stock((1, 2)), [[1] * 400, [2] * 200] * 30)
        self.assertEqual(wall_seen(Stock((1, 2)), wall_picture(long)), long)

    def test_topmost_first(self):
        self.same_tuple(wall_seen(STOCK, "|_____|___|\n|___|_____|").courses, ((2, 3), (3, 2)))

    def test_the_stock_is_the_one_passed(self):
        self.assertEqual(wall_seen(Stock((2, 3), 2, 2), "|___|").stock, Stock((2, 3), 2, 2))

    def test_no_string(self):
        for thing in NOT_TEXTS:
            self.refused("BadText", {"number": 0, "what": "text"}, wall_seen, STOCK, thing)

    def test_many(self):
        self.assertEqual(len(wall_seen(STOCK, "\n".join(["|___|"] * 60))), 60)
        for text in ("\n".join(["|___|"] * 61), "\n".join(["|___|"] * 60) + "\n", "x\n" * 60):
            self.refused("BadText", {"number": 0, "what": "many"}, wall_seen, STOCK, text)

    def test_shape(self):
        for row in ("", "|", "||", "|__|", "____", "|___", "___|", "_____", "|_ _|", "|_|_", "| _|", "|_x_|", "||__|", "|__||",
                    "|___| ", " |___|", "|____|", "|_||_|", "|__|__|", "___|_", "|___|\r", "|-__|", "|_" * 401 + "|",
                    "|" + "_" * 801 + "|", "|||", "|||||", "|_|_ ", "____|", "|____", "__|__", "__|_|", "|_|__",
                    "|", "_"):
            self.refused("BadText", {"number": 0, "what": "shape"}, wall_seen, STOCK, row)
            if row:
                self.refused("BadText", {"number": 1, "what": "shape"}, wall_seen, STOCK, "|___|\n" + row + "\n|_|")

    def test_greatest_length(self):
        self.assertEqual(wall_seen(Stock((1,)), "|_" * 400 + "|").courses, ((1,) * 400,))
        self.refused("BadText", {"number": 0, "what": "course"}, wall_seen, Stock((8,)), "|" + "_" * 799 + "|")

    def test_row_by_row(self):
        for text, number, what in (
                ("|_|", 0, "course"), ("|___|\n|_|\nx", 1, "course"), ("|___|\n|_____|\nx", 1, "length"),
                ("|___|\n|___|\n|_____|\n|_|", 2, "length"), ("|___|\n", 1, "shape"), ("\n|___|", 0, "shape"),
                ("|___|\n|_|_|", 1, "course"), ("|_____|\n|_|__|\n|___|", 1, "shape")):
            self.refused("BadText", {"number": number, "what": what}, wall_seen, STOCK, text)
