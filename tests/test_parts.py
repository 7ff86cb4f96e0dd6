"""Ascending rows of things, and which lie within others: what props, misfits and mends rest on."""

import unittest
from itertools import combinations

from jointsapart.parts import has_part, in_order, least_among, parts_of


class Parts(unittest.TestCase):
    def test_parts(self):
        for many in range(6):
            due = [part for size in range(many + 1) for part in combinations(range(many), size)]
            self.assertEqual(parts_of(list(range(many))), due)

    def test_order(self):
        self.assertEqual(in_order([(2,), (1, 2), (), (1,), (0, 9)]), [(), (1,), (2,), (0, 9), (1, 2)])

    def test_has_part(self):
        self.assertIs(has_part((1, 2), [(3,), (2,)]), True)
        self.assertIs(has_part((1, 2), [(1, 2)]), True)
        self.assertIs(has_part((1, 2), [(1, 3), (1, 2, 3)]), False)
        self.assertIs(has_part((1, 2), []), False)
        self.assertIs(has_part((), [()]), True)

    def test_least_among(self):
        self.assertEqual(least_among([(2, 1), (1, 2, 3), (3,), (1, 1, 2), (4, 3)]), [(3,), (1, 2)])
        self.assertEqual(least_among([(1,), ()]), [()])
