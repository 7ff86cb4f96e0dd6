"""[1.4], [1.5]: stocks."""

from jointsapart.stock import Stock
from tests.helper import NOT_SEQUENCES, NOT_WHOLE, Case


def told(stock):
    return (stock.bricks, stock.lap, stock.reach)


class Constructor(Case):
    def test_attributes(self):
        self.same_tuple(told(Stock((2, 3))), ((2, 3), 1, 1))
        self.same_tuple(told(Stock([1, 3, 5, 8], 4, 2)), ((1, 3, 5, 8), 4, 2))
        self.same_tuple(told(Stock(bricks=(8,), reach=2, lap=3)), ((8,), 3, 2))

    def test_bricks(self):
        for bricks in ((1,), (8,), (1, 2, 3, 4), [5, 6, 7, 8], (1, 8)):
            self.assertEqual(Stock(bricks).bricks, tuple(bricks))
        for bricks in ((), [], (1, 2, 3, 4, 5), (0,), (9,), (0, 1), (8, 9), (-1, 2), (3, 2), (2, 2), (1, 3, 2),
                       (1, 2, 2), *NOT_SEQUENCES):
            self.refused("BadStock", {"what": "bricks"}, Stock, bricks)

    def test_bricks_of_other_kinds(self):
        for thing in NOT_WHOLE:
            self.refused("BadStock", {"what": "bricks"}, Stock, (thing,))
            self.refused("BadStock", {"what": "bricks"}, Stock, (thing, 3))
            self.refused("BadStock", {"what": "bricks"}, Stock, [1, 3, thing])

    def test_lap(self):
        for lap in (1, 2, 3, 4):
            self.assertEqual(Stock((2,), lap).lap, lap)
        for lap in (0, 5, -1, *NOT_WHOLE):
            self.refused("BadStock", {"what": "lap"}, Stock, (2,), lap)

    def test_reach(self):
        for reach in (1, 2):
            self.assertEqual(Stock((2,), 1, reach).reach, reach)
        for reach in (0, 3, -1, *NOT_WHOLE):
            self.refused("BadStock", {"what": "reach"}, Stock, (2,), 1, reach)

    def test_order_of_refusals(self):
        self.refused("BadStock", {"what": "bricks"}, Stock, (), 0, 0)
        self.refused("BadStock", {"what": "lap"}, Stock, (1,), 0, 0)

    def test_a_later_change_of_the_list_has_no_effect(self):
        bricks = [2, 3]
        stock = Stock(bricks)
        bricks.append(4)
        self.assertEqual(stock.bricks, (2, 3))

    def test_longest(self):
        for bricks, longest in (((1,), 1), ((2, 3), 3), ((1, 2, 4, 8), 8)):
            self.assertEqual(Stock(bricks).longest, longest)

    def test_equality(self):
        stock = Stock((2, 3), 2, 1)
        self.assertIs(stock == Stock([2, 3], 2, 1), True)
        self.assertIs(stock != Stock([2, 3], 2, 1), False)
        for other in (Stock((2, 4), 2, 1), Stock((2, 3), 1, 1), Stock((2, 3), 2, 2), ((2, 3), 2, 1), None, "2 3"):
            self.assertIs(stock == other, False)
            self.assertIs(stock != other, True)


class Others(Case):
    def test_with_brick(self):
        stock = Stock((2, 5), 3, 2)
        for brick, bricks in ((1, (1, 2, 5)), (3, (2, 3, 5)), (8, (2, 5, 8)), (2, (2, 5)), (5, (2, 5))):
            self.same_tuple(told(stock.with_brick(brick)), (bricks, 3, 2))
        self.assertEqual(stock, Stock((2, 5), 3, 2))

    def test_a_fifth_brick(self):
        stock = Stock((1, 2, 3, 4))
        self.refused("BadStock", {"what": "bricks"}, stock.with_brick, 5)
        self.assertEqual(stock.with_brick(4), stock)

    def test_without_brick(self):
        stock = Stock((2, 5, 7), 3, 2)
        for brick, bricks in ((2, (5, 7)), (5, (2, 7)), (7, (2, 5)), (1, (2, 5, 7)), (8, (2, 5, 7))):
            self.same_tuple(told(stock.without_brick(brick)), (bricks, 3, 2))

    def test_without_the_only_brick(self):
        self.refused("BadStock", {"what": "bricks"}, Stock((4,)).without_brick, 4)
        self.assertEqual(Stock((4,)).without_brick(5), Stock((4,)))

    def test_bricks_that_are_none(self):
        full = Stock((1, 2, 3, 4))
        for thing in (0, 9, -2, *NOT_WHOLE):
            self.refused("BadStock", {"what": "bricks"}, full.with_brick, thing)
            self.refused("BadStock", {"what": "bricks"}, full.without_brick, thing)

    def test_with_lap(self):
        stock = Stock((2, 5), 3, 2)
        for lap in (1, 3, 4):
            self.same_tuple(told(stock.with_lap(lap)), ((2, 5), lap, 2))
        for lap in (0, 5, *NOT_WHOLE):
            self.refused("BadStock", {"what": "lap"}, stock.with_lap, lap)

    def test_with_reach(self):
        stock = Stock((2, 5), 3, 2)
        for reach in (1, 2):
            self.same_tuple(told(stock.with_reach(reach)), ((2, 5), 3, reach))
        for reach in (0, 3, *NOT_WHOLE):
            self.refused("BadStock", {"what": "reach"}, stock.with_reach, reach)

    def test_finer(self):
        self.same_tuple(told(Stock((1, 2), 1, 2).finer(4)), ((4, 8), 4, 2))
        self.same_tuple(told(Stock((1, 4), 2).finer(2)), ((2, 8), 4, 1))
        self.same_tuple(told(Stock((3, 8), 4, 2).finer(1)), ((3, 8), 4, 2))

    def test_finer_refused(self):
        stock = Stock((3,), 2)
        for size in (0, 5, -1, *NOT_WHOLE):
            self.refused("BadSize", {}, stock.finer, size)
        self.refused("BadStock", {"what": "bricks"}, Stock((3,), 4).finer, 3)
        self.refused("BadStock", {"what": "lap"}, Stock((2,), 3).finer, 2)
        self.refused("BadSize", {}, Stock((8,), 4).finer, 5)

    def test_what_is_returned_is_new(self):
        stock = Stock((2, 3))
        for other in (stock.with_brick(2), stock.without_brick(8), stock.with_lap(1), stock.with_reach(1), stock.finer(1)):
            self.assertEqual(other, stock)
            self.assertIsNot(other, stock)
