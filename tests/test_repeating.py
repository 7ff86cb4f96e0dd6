"""[4.1], [4.2], [4.19]: endless sequences that go round."""

from jointsapart.repeating import Repeating, until_repeated
from tests.helper import NOT_WHOLE, Case


class At(Case):
    def test_against_going_on(self):
        for many in range(1, 7):
            for back in range(many):
                things = [10 * number for number in range(many)]
                row = Repeating(things, back)
                due = list(things)
                while len(due) < 40:
                    due += things[back:]
                self.assertEqual([row.at(number) for number in range(40)], due[:40])

    def test_great_numbers(self):
        row = Repeating(("a", "b", "c", "d", "e"), 2)
        self.assertEqual(row.at(10 ** 30), "cde"[(10 ** 30 - 2) % 3])
        self.assertEqual(row.at(10 ** 30 - 1), "cde"[(10 ** 30 - 3) % 3])
        self.assertEqual(Repeating((7,), 0).at(10 ** 30), 7)

    def test_refused(self):
        row = Repeating((1, 2), 0)
        for number in (-1, 10 ** 30 + 1, 10 ** 400, *NOT_WHOLE):
            self.refused("BadLength", {}, row.at, number)


class Made(Case):
    def test_attributes(self):
        things = [[1, [2]], (3,)]
        row = Repeating(things, 1)
        things[0][1].append(5)
        things.append(4)
        self.same_tuple(row.things, ((1, (2,)), (3,)))
        self.assertEqual(row.back, 1)

    def test_checks_nothing(self):
        row = Repeating((1, 2), None)
        self.assertEqual((row.things, row.back), ((1, 2), None))
        self.assertEqual(Repeating(None, 7).back, 7)

    def test_equality(self):
        row = Repeating((1, 2), 1)
        self.assertIs(row == Repeating([1, 2], 1), True)
        self.assertIs(row != Repeating([1, 2], 1), False)
        # The same things come of these, but they are told in another way.
        for other in (Repeating((1, 2), 0), Repeating((1, 2, 2), 1), Repeating((1, 2, 2), 2), ((1, 2), 1), None):
            self.assertIs(row == other, False)
            self.assertIs(row != other, True)


class Until(Case):
    def test_against_going_on(self):
        for modulus in (1, 2, 7, 12, 36):
            for first in range(modulus):
                row = until_repeated(first, lambda thing: thing * thing % modulus)
                due = [first]
                while len(due) < 50:
                    due.append(due[-1] * due[-1] % modulus)
                self.assertEqual([row.at(number) for number in range(50)], due)
                self.assertEqual(len(set(row.things)), len(row.things))
                self.assertIn(row.things[-1] * row.things[-1] % modulus, row.things)
                self.assertLess(row.back, len(row.things))

    def test_form(self):
        self.assertEqual(until_repeated(5, lambda thing: thing), Repeating((5,), 0))
        self.assertEqual(until_repeated(0, lambda thing: min(thing + 1, 3)), Repeating((0, 1, 2, 3), 3))
        self.assertEqual(until_repeated(0, lambda thing: (thing + 1) % 3), Repeating((0, 1, 2), 0))
        self.assertEqual(until_repeated("a", lambda thing: (thing + "b")[-3:]), Repeating(("a", "ab", "abb", "bbb"), 3))

    def test_things(self):
        deep = (((((("x",), 1), True), 2), False), 3)
        other = (((((("x",), 1), False), 2), False), 3)
        row = until_repeated(deep, {deep: other, other: deep}.get)
        self.assertEqual(row, Repeating((deep, other), 0))
        # A text is no number, but by == a truth is one.
        self.assertEqual(until_repeated(1, {1: "1", "1": (1,), (1,): (True,)}.get), Repeating((1, "1", (1,)), 2))

    def test_most_just_at_the_count_and_below(self):
        def step(thing):
            return min(thing + 1, 6)
        self.assertEqual(len(until_repeated(0, step, most=7).things), 7)
        self.refused("Wide", {"most": 6}, until_repeated, 0, step, most=6)
        self.assertEqual(len(until_repeated(0, lambda thing: thing, most=1).things), 1)
        self.refused("Wide", {"most": 1}, until_repeated, 0, step, most=1)

    def test_4000(self):
        self.assertEqual(len(until_repeated(0, lambda thing: (thing + 1) % 4000).things), 4000)
        self.assertEqual(len(until_repeated(0, lambda thing: (thing + 1) % 4000, most=4000).things), 4000)
        self.refused("Wide", {"most": 4000}, until_repeated, 0, lambda thing: (thing + 1) % 4001)
        self.refused("Wide", {"most": 4000}, until_repeated, 0, lambda thing: thing + 1, most=4000)

    def test_raised_as_soon_as_the_bound_is_passed(self):
        asked = []

        def step(thing):
            asked.append(thing)
            return thing + 1
        self.refused("Wide", {"most": 3}, until_repeated, 0, step, most=3)
        self.assertEqual(asked, [0, 1, 2])

    def test_bad_most_before_the_first_step(self):
        def step(thing):
            raise AssertionError(thing)
        for most in (0, 4001, -1, *NOT_WHOLE):
            self.refused("BadMost", {}, until_repeated, 0, step, most=most)
