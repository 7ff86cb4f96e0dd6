"""[4.14], [4.15], [4.19]: nets, their least mean cost, and the judge."""

from fractions import Fraction
from itertools import product

from jointsapart.means import Rate, least_mean, net_fault
from tests.helper import NOT_WHOLE, Case


def rings_of(edges):
    """All rings of a small net that meet no node twice, as lists of indices."""
    found = []

    def walk(ring, nodes):
        for index, (start, end, _) in enumerate(edges):
            if start == nodes[-1]:
                if end == nodes[0]:
                    found.append([*ring, index])
                elif end not in nodes and end > nodes[0]:
                    walk([*ring, index], [*nodes, end])
    for first in sorted({start for start, _, _ in edges}):
        walk([], [first])
    return found


def mean_of(edges, ring):
    return Fraction(sum(edges[index][2] for index in ring), len(ring))


def mixed(seed, many, modulus):
    """Numbers from 0 to modulus - 1 that look mixed."""
    numbers = []
    for _ in range(many):
        seed = (seed * 1103515245 + 12345) % 2 ** 31
        numbers.append(seed // 65536 % modulus)
    return numbers


def small_nets():
    for seed in range(400):
        many = 1 + seed % 5
        size = seed % 9
        starts, ends = mixed(seed, size, many), mixed(seed + 1000, size, many)
        costs = mixed(seed + 2000, size, (3, 9, 1000)[seed % 3])
        yield many, [(start, end, cost - 3) for start, end, cost in zip(starts, ends, costs)]


class Least(Case):
    def check(self, many, edges, due):
        rate = least_mean(many, edges)
        if due is None:
            self.assertIsNone(rate)
            return
        self.assertIs(type(rate), Rate)
        self.assertEqual(rate.ratio, (due.numerator, due.denominator))
        self.assertEqual(mean_of(edges, rate.ring), due)
        for at, index in enumerate(rate.ring):
            self.assertEqual(edges[rate.ring[at - 1]][1], edges[index][0])
        self.assertEqual(len(rate.numbers), many)
        for start, end, cost in edges:
            self.assertLessEqual(rate.numbers[end], rate.numbers[start] + cost * due.denominator - due.numerator)
        self.same_tuple((rate.ratio, rate.ring, rate.numbers), (rate.ratio, rate.ring, rate.numbers))
        self.assertTrue(all(type(number) is int for number in (*rate.ring, *rate.numbers)))
        self.assertIs(net_fault(many, edges, rate), None)

    def test_against_all_rings(self):
        for many, edges in small_nets():
            self.check(many, edges, min([mean_of(edges, ring) for ring in rings_of(edges)], default=None))

    def test_1_node(self):
        self.check(1, [], None)
        self.check(1, [(0, 0, 7)], Fraction(7))
        self.check(1, [(0, 0, 7), (0, 0, -7), (0, 0, 0)], Fraction(-7))

    def test_without_a_ring(self):
        self.check(3, [(0, 1, 5), (1, 2, -5), (0, 2, 0)], None)
        self.check(300, [(node, node + 1, -node) for node in range(299)], None)
        self.check(300, [(node, to, node - to) for node in range(30) for to in range(node + 1, 80)], None)

    def test_300_nodes(self):
        edges = [(node, (node + 1) % 300, node) for node in range(300)]
        self.check(300, edges, Fraction(299, 2))
        edges[299] = (299, 0, -10 ** 9)
        self.check(300, edges, Fraction(298 * 299 // 2 - 10 ** 9, 300))
        # A way into a ring may be dear, and it may be cheap.
        self.check(300, [*edges[:299], (299, 298, 4), (0, 299, -10 ** 9)], Fraction(302, 2))

    def test_1500_edges(self):
        starts, ends, costs = mixed(1, 1500, 300), mixed(2, 1500, 300), mixed(3, 1500, 30000)
        edges = list(zip(starts, ends, [cost - 15000 for cost in costs]))
        rate = least_mean(300, edges)
        self.check(300, edges, Fraction(*rate.ratio))
        self.assertLess(rate.ratio[0], 0)

    def test_great_costs(self):
        self.check(2, [(0, 1, 10 ** 299), (1, 0, 1 - 10 ** 299), (0, 0, 3)], Fraction(1, 2))

    def test_several_rings_of_one_mean(self):
        self.check(4, [(0, 1, 1), (1, 0, 3), (2, 3, 0), (3, 2, 4), (1, 2, -9), (2, 2, 2)], Fraction(2))
        self.check(3, [(0, 1, 2), (0, 1, 2), (1, 2, 2), (2, 0, 2), (1, 1, 2)], Fraction(2))

    def test_edges_as_lists(self):
        self.check(2, [[0, 1, 5], [1, 0, -2]], Fraction(3, 2))
        self.check(2, ((0, 1, 5), (1, 0, -2)), Fraction(3, 2))

    def test_later_changes_have_no_effect(self):
        edges = [(0, 0, 5)]
        rate = least_mean(1, edges)
        edges.append((0, 0, 1))
        self.assertEqual((rate.ratio, rate.ring), ((5, 1), (0,)))


class Judged(Case):
    EDGES = [(0, 1, 1), (1, 0, 2), (1, 2, -5), (2, 2, 9), (0, 1, 1)]

    def check(self, word, ratio=(3, 2), ring=(0, 1), numbers=(0, -1, -14)):
        self.assertEqual(net_fault(3, self.EDGES, Rate(ratio, ring, numbers)), word)

    def test_right_rates(self):
        for ring in ((0, 1), (1, 0), (4, 1), (1, 4), (0, 1, 0, 1), (0, 1, 4, 1, 0, 1), [1, 4]):
            for numbers in ((0, -1, -14), (10 ** 40, 10 ** 40 - 1, -10 ** 50), [1, 0, -13], (0, -1, -15)):
                self.check(None, ring=ring, numbers=numbers)

    def test_ring(self):
        for ring in ((), (0,), (0, 0), (1,), (0, 2), (0, 1, 2), (2, 3), (0, 5), (5,), (-4, 0), (0, -4), (False, True), (0, True),
                     (0, "1"), (0, None), None, 5, "01", {0: 0, 1: 1}):
            self.check("ring", ring=ring)
            self.check("ring", ring=ring, ratio=None, numbers=None)

    def test_ratio(self):
        for ratio in ((6, 4), (-3, -2), (1, 1), (3, 1), 3, None, (), (3,), (3, 2, 1), (3, True), "3/2", (3, 0)):
            self.check("ratio", ratio=ratio)
            self.check("ratio", ratio=ratio, numbers=None)
        edges = [(0, 0, 1)]
        self.assertEqual(net_fault(1, edges, Rate((True, 1), (0,), (0,))), "ratio")
        self.assertIs(net_fault(1, edges, Rate((1, 1), (0,), (0,))), None)
        self.check("ratio", ring=(3,))
        self.check("edge", ring=(3,), ratio=(9, 1))

    def test_numbers(self):
        for numbers in ((), (0, -1), (0, -1, -14, 0), (0, -1, None), (False, -1, -14), (0, -1, "2"), None, 5, "012",
                        *NOT_WHOLE[:5]):
            self.check("numbers", numbers=numbers)

    def test_edge(self):
        # The first number may be 0 above or 0 below what the two edges let, no more.
        self.check("edge", numbers=(0, 0, -14))
        self.check("edge", numbers=(0, -2, -15))
        self.check("edge", numbers=(0, -1, -13))
        # A ring that has not the least mean bears no numbers at all.
        edges = [(0, 0, 2), (0, 0, 1)]
        for number in (-1, 0, 5):
            self.assertEqual(net_fault(1, edges, Rate((2, 1), (0,), (number,))), "edge")
            self.assertIs(net_fault(1, edges, Rate((1, 1), (1,), (number,))), None)

    def test_no_numbers_for_a_greater_mean(self):
        for many, edges in list(small_nets())[::9]:
            rings = rings_of(edges)
            for ring in rings:
                mean = mean_of(edges, ring)
                least = min(mean_of(edges, other) for other in rings)
                ratio = (mean.numerator, mean.denominator)
                for numbers in product((-1, 0, 1), repeat=many):
                    if mean > least:
                        self.assertEqual(net_fault(many, edges, Rate(ratio, ring, numbers)), "edge")


class Rates(Case):
    def test_attributes(self):
        ring, numbers = [0, 1], [5]
        rate = Rate((1, 2), ring, numbers)
        ring.append(7)
        numbers.append(7)
        self.same_tuple((rate.ratio, rate.ring, rate.numbers), ((1, 2), (0, 1), (5,)))

    def test_checks_nothing(self):
        rate = Rate(None, 5, "x")
        self.assertEqual((rate.ratio, rate.ring, rate.numbers), (None, 5, "x"))

    def test_equality(self):
        rate = Rate((1, 2), (0, 1), (5,))
        self.assertIs(rate == Rate((1, 2), [0, 1], [5]), True)
        self.assertIs(rate != Rate((1, 2), [0, 1], [5]), False)
        for other in (Rate((1, 3), (0, 1), (5,)), Rate((1, 2), (1, 0), (5,)), Rate((1, 2), (0, 1), (6,)),
                      ((1, 2), (0, 1), (5,)), None):
            self.assertIs(rate == other, False)
            self.assertIs(rate != other, True)
