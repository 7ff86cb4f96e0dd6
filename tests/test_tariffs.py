"""[4.16] to [4.18], and of [4.19] what it says of Cheapest and TariffNet."""

from fractions import Fraction
from itertools import combinations_with_replacement

from jointsapart.lengths import length_calendar
from jointsapart.means import Rate, net_fault
from jointsapart.stands import first_stand
from jointsapart.stock import Stock
from jointsapart.tariffs import Cheapest, TariffNet, cheapest_lot, cut_tariff, tariff_net, tariff_rate
from tests.helper import NOT_SEQUENCES, NOT_WHOLE, Case, slow_apart, slow_courses, slow_ways

STOCKS = [Stock((2, 3)), Stock((2, 3), 1, 2), Stock((4,), 2), Stock((3, 5), 2), Stock((1, 4), 1, 2), Stock((1,)), Stock((6,), 3, 1),
          Stock((8,), 4, 1), Stock((3, 8), 3, 2), Stock((5, 7), 4, 2)]
TWO = Stock((2, 3))
BIG = 10 ** 6


def some_tariffs(stock):
    """Some tariffs: cut, all free, none, dear, with few pieces."""
    many = stock.longest
    return [cut_tariff(stock), (0,) * many, (None,) * many, [BIG] * many, [(7 * piece + 3) % 5 for piece in range(many)],
            [None if piece % 3 == 1 else piece * piece for piece in range(many)], [None] * (many - 1) + [2]]


def slow_cheapest(stock, tariff, length):
    """The least price of a lot of pieces, by trying each choice; None if there is none."""
    pieces = [at + 1 for at, price in enumerate(tariff) if price is not None]
    rows = slow_courses(pieces, length)
    prices = [sum(sum(tariff[piece - 1] for piece in row) for row in lot)
              for lot in combinations_with_replacement(rows, stock.reach + 1) if slow_apart(stock, lot)]
    return min(prices, default=None)


class PiecesOf:
    """The pieces in the place of the bricks, for the plain ways."""

    def __init__(self, stock, tariff):
        self.bricks = [at + 1 for at, price in enumerate(tariff) if price is not None]
        self.lap = stock.lap


class Tariffs(Case):
    def test_cut(self):
        for stock in STOCKS:
            due = tuple(0 if piece in stock.bricks else 1 for piece in range(1, stock.longest + 1))
            self.same_tuple(cut_tariff(stock), due)
        self.assertEqual(cut_tariff(Stock((2, 5))), (1, 0, 1, 1, 0))

    def test_refused_ahead_of_all_else(self):
        for function, more in ((cheapest_lot, (-1,)), (tariff_net, ()), (tariff_rate, ())):
            for tariff in ((), (0, 0), (0,) * 4, [None] * 4, *NOT_SEQUENCES):
                self.refused("BadTariff", {"index": 0}, function, TWO, tariff, *more)
            for price in (-1, BIG + 1, *[thing for thing in NOT_WHOLE if thing is not None]):
                for index in range(3):
                    tariff = [0, None, BIG]
                    tariff[index] = price
                    self.refused("BadTariff", {"index": index}, function, TWO, [*tariff[:index + 1], *[-1] * (2 - index)], *more)
        for length in (0, 41, -1, *NOT_WHOLE):
            self.refused("BadLength", {}, cheapest_lot, TWO, (0, None, BIG), length)

    def test_later_changes_have_no_effect(self):
        tariff = [1, 0, 0]
        found = cheapest_lot(TWO, tariff, 4)
        net = tariff_net(TWO, tariff)
        tariff[1] = None
        self.assertEqual(found.price, 1)
        self.assertEqual(net, tariff_net(TWO, [1, 0, 0]))


class Lots(Case):
    def check(self, stock, tariff, length, found):
        """A lot of the told price, of the pieces to be had."""
        self.assertIs(type(found), Cheapest)
        self.same_tuple(found.courses, tuple(sorted(found.courses)))
        self.assertEqual(len(found.courses), stock.reach + 1)
        self.assertEqual({sum(course) for course in found.courses}, {length})
        self.assertEqual(found.price, sum(tariff[piece - 1] for course in found.courses for piece in course))
        self.assertTrue(slow_apart(stock, found.courses))

    def test_against_each_choice(self):
        for stock in STOCKS:
            for tariff in some_tariffs(stock):
                for length in range(1, 8 if stock.reach == 1 else 6):
                    found = cheapest_lot(stock, tariff, length)
                    due = slow_cheapest(stock, tariff, length)
                    if due is None:
                        self.assertIs(found, None)
                    else:
                        self.assertEqual(found.price, due)
                        self.check(stock, tariff, length, found)

    def test_edges(self):
        for stock in STOCKS:
            for tariff in some_tariffs(stock):
                for length in (1, 40):
                    found = cheapest_lot(stock, tariff, length)
                    if found is not None:
                        self.check(stock, tariff, length, found)
            self.assertIs(cheapest_lot(stock, (None,) * stock.longest, 40), None)
        self.assertEqual(cheapest_lot(TWO, (BIG, BIG, BIG), 3).price, 2 * BIG)

    def test_by_the_cut_tariff(self):
        for stock in STOCKS:
            calendar = length_calendar(stock)
            for length in (*range(1, 20), 39, 40):
                found = cheapest_lot(stock, cut_tariff(stock), length)
                self.assertIs(found is not None and found.price == 0, length in calendar)

    def test_example(self):
        self.assertEqual(cheapest_lot(TWO, cut_tariff(TWO), 4).price, 1)
        self.assertEqual(cheapest_lot(TWO, cut_tariff(TWO), 5), Cheapest(0, ((2, 3), (3, 2))))


class Nets(Case):
    def slow_net(self, stock, tariff):
        """All stands on some way, and the units between them, by plain sets."""
        pieces = PiecesOf(stock, tariff)
        after = {}
        waiting = [first_stand(stock.reach + 1)]
        while waiting:
            stand = waiting.pop()
            if stand not in after:
                after[stand] = {tuple(sorted(ends)) for ends in slow_ways(pieces, stand, 1)} if pieces.bricks else set()
                waiting += after[stand]
        on_way = {stand for stand in after if all(age in pieces.bricks for age, _ in stand)}
        many = None
        while many != len(on_way):
            many = len(on_way)
            on_way |= {stand for stand in after if after[stand] & on_way}
        stands = sorted(on_way)
        rows = []
        for start in stands:
            for end in after[start] & on_way:
                older = sorted((age + 1, fresh) for age, fresh in start)
                gone = [couple for couple in older if older.count(couple) > end.count(couple)]
                rows.append((stands.index(start), stands.index(end), tariff[gone[0][0] - 1] if gone else 0))
        return tuple(stands), tuple(sorted(rows))

    def test_against_plain_sets(self):
        for stock in STOCKS:
            for tariff in some_tariffs(stock):
                net = tariff_net(stock, tariff)
                stands, edges = self.slow_net(stock, tariff)
                self.assertIs(type(net), TariffNet)
                self.same_tuple(net.stands, stands)
                self.same_tuple(net.edges, edges)

    def test_rate(self):
        for stock in STOCKS:
            for tariff in some_tariffs(stock):
                net = tariff_net(stock, tariff)
                rate = tariff_rate(stock, tariff)
                laid = [length for length in (*range(1, 30), 40) if cheapest_lot(stock, tariff, length) is not None]
                if rate is None:
                    self.assertNotIn(40, laid)
                    continue
                self.assertIs(type(rate), Rate)
                self.assertIs(net_fault(len(net.stands), net.edges, rate), None)
                self.assertGreater(len(laid), 3)
                spread = Fraction(max(rate.numbers) - min(rate.numbers), rate.ratio[1])
                for length in laid:
                    price = cheapest_lot(stock, tariff, length).price
                    self.assertGreaterEqual(price, length * Fraction(*rate.ratio) - spread)
                # Rings can be laid again and again: the price of one more is paid for all of them.
                self.assertGreaterEqual(Fraction(*rate.ratio), 0)

    def test_rate_by_the_cut_tariff(self):
        for bricks in ((1,), (2,), (3,), (4,), (6,), (8,), (2, 3), (3, 7), (1, 2)):
            for lap in range(1, 5):
                for reach in (1, 2):
                    stock = Stock(bricks, lap, reach)
                    rate = tariff_rate(stock, cut_tariff(stock))
                    if stock.longest >= lap * (reach + 1):
                        self.assertEqual(rate.ratio, (0, 1))
                    else:
                        self.assertIs(rate, None)

    def test_without_pieces(self):
        for stock in STOCKS:
            tariff = (None,) * stock.longest
            self.assertEqual(tariff_net(stock, tariff), TariffNet((), ()))
            self.assertIs(tariff_rate(stock, tariff), None)

    def test_finitely_many_lengths(self):
        # One piece alone, whose two courses have no room beside one another: length 1 is all.
        stock = Stock((1, 3))
        net = tariff_net(stock, (5, None, None))
        self.assertEqual(net.stands, (first_stand(2), ((1, True), (1, True))))
        self.assertEqual(net.edges, ((0, 1, 0),))
        self.assertIs(tariff_rate(stock, (5, None, None)), None)
        self.assertEqual(cheapest_lot(stock, (5, None, None), 1).price, 10)

    def test_rate_of_one_piece(self):
        # Each of two courses pays 7 for each 2 units; the piece 1 that begins one of them is paid once.
        rate = tariff_rate(Stock((1, 2)), (4, 7))
        self.assertEqual(rate.ratio, (7, 1))
        self.assertEqual(tariff_rate(Stock((3,), 1, 2), (1, 1, 2)).ratio, (2, 1))
        self.assertEqual(tariff_rate(Stock((3,), 1, 2), (1, BIG, 1)).ratio, (1, 1))
        # By the piece 2 alone both courses lay their joints on one another.
        self.assertIs(tariff_rate(Stock((1, 2)), (None, 7)), None)


class Results(Case):
    def test_equal(self):
        for made, parts in ((Cheapest, (1, ((2,),))), (TariffNet, ((((0, True),),), ((0, 0, 1),)))):
            self.assertIs(made(*parts) == made(*parts), True)
            self.assertIs(made(*parts) != made(*parts), False)
            for other in (made(5, parts[1]), made(parts[0], 5), parts, None):
                self.assertIs(made(*parts) == other, False)
                self.assertIs(made(*parts) != other, True)
        self.assertIs(Cheapest(1, 2) == TariffNet(1, 2), False)

    def test_results_keep_what_they_are_given(self):
        one, other = [], []
        self.assertIs(Cheapest(one, other).price, one)
        self.assertIs(Cheapest(one, other).courses, other)
        self.assertIs(TariffNet(one, other).stands, one)
        self.assertIs(TariffNet(one, other).edges, other)
