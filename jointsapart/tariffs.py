"""Tariffs: prices of pieces that are laid in the place of bricks, and the least price for all lengths."""

from jointsapart.course import check_length
from jointsapart.errors import BadTariff
from jointsapart.graphs import Graph
from jointsapart.means import least_mean
from jointsapart.ratios import is_sequence, is_whole
from jointsapart.stands import can_finish, couples_into, first_stand, next_stands, rows_along, unit_steps


class Cheapest:
    """The least price of a lot, and such a lot."""

    def __init__(self, price, courses):
        self.price = price
        self.courses = courses

    def __eq__(self, other):
        return isinstance(other, Cheapest) and self.price == other.price and self.courses == other.courses


class TariffNet:
    """The stands on the ways of a tariff, and the units between them with what they cost."""

    def __init__(self, stands, edges):
        self.stands = stands
        self.edges = edges

    def __eq__(self, other):
        return isinstance(other, TariffNet) and self.stands == other.stands and self.edges == other.edges


class Pieces:
    """The pieces that are to be had, in the place of the bricks of a stock; there may be none, and more than four."""

    def __init__(self, stock, tariff):
        self.bricks = tuple([index + 1 for index, price in enumerate(tariff) if price is not None])
        self.lap = stock.lap

    @property
    def longest(self):
        """The greatest piece, 0 if there is none."""
        return self.bricks[-1] if self.bricks else 0


def _check_tariff(stock, tariff):
    """Return the tariff as a tuple, or raise BadTariff."""
    if not is_sequence(tariff, stock.longest, stock.longest):
        raise BadTariff(0)
    for index, price in enumerate(tariff):
        if price is not None and not is_whole(price, 0, 10 ** 6):
            raise BadTariff(index)
    return tuple(tariff)


def cut_tariff(stock):
    """Return the tariff in which bricks cost nothing and each other piece, cut from one, costs 1."""
    return tuple([0 if piece in stock.bricks else 1 for piece in range(1, stock.longest + 1)])


def cheapest_lot(stock, tariff, length):
    """Return the Cheapest lot of reach + 1 courses of this length, or None if there is none."""
    prices = _check_tariff(stock, tariff)
    check_length(length, 40)
    pieces = Pieces(stock, prices)
    layers = [{first_stand(stock.reach + 1): (0, None)}]
    for _ in range(length):
        layers.append(_cheapest_behind(pieces, prices, layers[-1]))
    totals = [(layers[-1][stand][0] + sum([prices[age - 1] for age, _ in stand]), stand)
              for stand in layers[-1] if can_finish(pieces, stand)]
    if not totals:
        return None
    price, stand = min(totals)
    return Cheapest(price, _lot_through(pieces, _stands_to(layers, stand)))


def _cheapest_behind(pieces, prices, layer):
    """Return each stand one unit further on with the least price of a way to it, and the stand before it there."""
    behind = {}
    for stand in layer:
        for index, couples in unit_steps(pieces, stand):
            after = tuple(sorted(couples))
            price = layer[stand][0] + _price_of(prices, stand, index)
            if after not in behind or price < behind[after][0]:
                behind[after] = (price, stand)
    return behind


def _price_of(prices, stand, index):
    """Return the price of the piece that ends in a unit behind this stand, 0 if none does."""
    return 0 if index is None else prices[stand[index][0]]


def _stands_to(layers, last):
    """Return the stands of the cheapest way to this one."""
    stands = [last]
    for layer in layers[:0:-1]:
        stands.append(layer[stands[-1]][1])
    return stands[::-1]


def _lot_through(pieces, stands):
    """Return the lot that goes through these stands; which course ends a piece does not change the price."""
    ends = [stands[0]]
    for stand in stands[1:]:
        ends.append(couples_into(pieces, ends[-1], {stand: True}))
    return tuple(sorted(rows_along(ends, [len(stands) - 1] * len(stands[0]))))


def tariff_net(stock, tariff):
    """Return the TariffNet of all ways from the first stand to one that can finish."""
    prices = _check_tariff(stock, tariff)
    pieces = Pieces(stock, prices)
    graph = Graph([first_stand(stock.reach + 1)], lambda stand: next_stands(pieces, stand))
    finishing = graph.where(lambda stand: can_finish(pieces, stand))
    more = finishing | graph.leading_to(finishing)
    while more != finishing:
        finishing = more
        more = finishing | graph.leading_to(finishing)
    stands = graph.told(finishing)
    numbers = {stand: number for number, stand in enumerate(stands)}
    edges = {(numbers[stand], numbers[after], price) for stand in stands
             for after, price in _priced_steps(pieces, prices, stand) if after in numbers}
    return TariffNet(stands, tuple(sorted(edges)))


def _priced_steps(pieces, prices, stand):
    """Return what can come of a stand in one unit, with the price of the piece that ends there or 0."""
    return [(tuple(sorted(couples)), _price_of(prices, stand, index)) for index, couples in unit_steps(pieces, stand)]


def tariff_rate(stock, tariff):
    """Return the Rate of the net, or None if finitely many lengths can be laid."""
    net = tariff_net(stock, tariff)
    return least_mean(len(net.stands), net.edges) if net.stands else None
