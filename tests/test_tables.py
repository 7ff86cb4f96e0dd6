"""tables.py: the courses of one length by number, and the tops of walls made of them."""

from jointsapart.stock import Stock
from jointsapart.tables import Table, is_in_lot, tops_of
from tests.helper import Case, slow_apart, slow_courses, slow_lots

STOCKS = [Stock((2, 3)), Stock((2, 3), 1, 2), Stock((1, 2, 4), 2, 2), Stock((1, 2), 4), Stock((1, 5), 3, 2)]


class Tables(Case):
    def test_numbers_and_what_is_apart(self):
        for stock in STOCKS:
            for length in (4, 6, 7):
                table = Table(stock, length)
                courses = slow_courses(stock.bricks, length)
                self.assertEqual(table.courses, tuple(courses))
                for number, course in enumerate(courses):
                    self.assertEqual(table.numbers[course], number)
                    for other in range(len(courses)):
                        due = tuple(at for at, row in enumerate(courses)
                                    if slow_apart(stock, (row, course)) and slow_apart(stock, (row, courses[other])))
                        self.same_tuple(table.apart_from((number, other)), due)

    def test_tops(self):
        stock = Stock((1, 2, 3), 1, 2)
        table = Table(stock, 4)
        top = table.top_of([(1, 3), (3, 1), (2, 2)])
        self.assertEqual(table.told(top), ((3, 1), (2, 2)))
        self.assertEqual(table.told(table.top_with(top, table.numbers[(1, 3)])), ((2, 2), (1, 3)))
        self.assertEqual(table.told(table.top_of([(1, 3)])), ((1, 3),))

    def test_tops_of(self):
        for stock in STOCKS:
            table = Table(stock, 5)
            for size in (0, 1, 2, 3):
                rows = tops_of(table, size)
                self.assertEqual(rows, sorted(rows))
                told = {tuple(sorted(table.told(row))) for row in rows}
                self.assertEqual(sorted(told), slow_lots(stock, 5, size))

    def test_is_in_lot(self):
        for stock in STOCKS:
            table = Table(stock, 5)
            lots = slow_lots(stock, 5, stock.reach + 1)
            for number, course in enumerate(table.courses):
                self.assertIs(is_in_lot(table, (number,)), any(course in lot for lot in lots))
