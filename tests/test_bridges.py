"""[3.8] to [3.11]: bridges, and what shows that there is none."""

from jointsapart.bridges import (NoBridge, bridge_fault, bridge_of, bridges_over, least_bridges, nobridge_fault,
                                 shortest_bridge)
from jointsapart.rounds import round_for, wall_from
from jointsapart.stock import Stock
from jointsapart.walls import Wall, is_right
from tests.helper import NOT_SEQUENCES, NOT_WHOLE, Case, slow_apart, slow_courses, slow_right, slow_walls

STOCKS = [Stock((2, 3)), Stock((2, 3), 1, 2), Stock((1, 2, 4), 2, 2), Stock((1, 2), 4), Stock((1, 2, 3), 1, 2),
          Stock((1, 3, 4), 1, 2), Stock((2, 4, 5), 1, 2), Stock((4,), 1, 2)]
TWO = Stock((2, 3))
NEARS = {}


def next_courses(stock, length, top):
    """All courses that are apart from each course of the top, by trying each; kept, since they are asked often."""
    key = (stock.bricks, stock.lap, length, tuple(top))
    if key not in NEARS:
        NEARS[key] = [course for course in slow_courses(stock.bricks, length)
                      if all(slow_apart(stock, (course, other)) for other in top)]
    return NEARS[key]


def tops_behind(stock, length, top, most):
    """For 0 to `most` courses the set of tops behind so many."""
    layers = [{tuple(top)}]
    for _ in range(most):
        layers.append({(last + (course,))[-stock.reach:] for last in layers[-1]
                       for course in next_courses(stock, length, last)})
    return layers


def bears(stock, top, upper):
    """Whether the top and the upper wall together are right, but for what the top is by itself."""
    together = top + upper
    return all(slow_apart(stock, (together[low], together[high]))
               for low in range(len(top)) for high in range(len(top), len(together)) if high - low <= stock.reach)


def numbers_bridged(stock, lower, upper, most):
    """For 0 to `most` whether there is a bridge of so many courses, number by number."""
    layers = tops_behind(stock, lower.length, lower.courses[-stock.reach:], most)
    return [any(bears(stock, top, upper.courses) for top in layer) for layer in layers]


def some_walls(stock, length):
    """Right walls of 1 to 3 courses, not too many."""
    walls = [courses for height in (1, 2, 3) for courses in slow_walls(stock, length, height)]
    return [Wall(stock, courses) for courses in walls[::len(walls) // 9 + 1]]


def cases():
    for stock in STOCKS:
        for length in (3, 4, 5, 6):
            walls = some_walls(stock, length)
            for at, lower in enumerate(walls):
                for upper in walls[at % 2::2]:
                    yield stock, lower, upper


class Leasts(Case):
    def test_against_going_number_by_number(self):
        for stock, lower, upper in cases():
            size = stock.reach + 1
            # By trying it out, no least of these small walls is above 12.
            due = numbers_bridged(stock, lower, upper, 15)
            leasts = least_bridges(lower, upper)
            self.same_tuple(leasts, tuple(min([n for n in range(1, 16) if n % size == rest and due[n]], default=None)
                                          for rest in range(size)))
            self.assertEqual([bridges_over(lower, upper, n) for n in range(16)], due)

    def test_entry_0_is_never_0(self):
        wall = Wall(Stock((4,)), [(4,)])
        self.assertEqual(least_bridges(wall, wall), (2, 1))
        three = Wall(Stock((4,), 1, 2), [(4,)])
        self.assertEqual(least_bridges(three, three), (3, 1, 2))

    def test_great_numbers(self):
        one = Wall(TWO, [(2, 2, 3)])
        other = Wall(TWO, [(3, 2, 2)])
        self.assertIs(bridges_over(one, one, 10 ** 30), False)
        self.assertIs(bridges_over(one, one, 10 ** 30 - 1), True)
        self.assertIs(bridges_over(one, other, 10 ** 30), True)
        self.assertIs(bridges_over(one, other, 0), True)
        self.assertIs(bridges_over(one, one, 0), False)

    def test_two_walls_of_one_course_and_reach_2(self):
        # They can be piled straight on one another, but nothing can be laid between them.
        stock = Stock((2, 3), 1, 2)
        one, other = Wall(stock, [(2, 3)]), Wall(stock, [(3, 2)])
        self.assertIs(bridges_over(one, other, 0), True)
        self.assertEqual(least_bridges(one, other), (None, None, None))
        self.assertEqual(shortest_bridge(one, other), ())

    def test_no_number(self):
        wall = Wall(TWO, [(2, 3)])
        for number in (-1, 10 ** 30 + 1, *NOT_WHOLE):
            self.refused("NoNumber", {"number": number}, bridges_over, wall, wall, number)


class Firsts(Case):
    def test_against_all_bridges(self):
        for stock, lower, upper in cases():
            top = lower.courses[-stock.reach:]
            for number in (0, 1, 2, 3):
                if len(slow_courses(stock.bricks, lower.length)) > 9 and number > 2:
                    continue
                rows = [courses[len(top):] for courses in walks(stock, lower.length, top, number)]
                rights = [row for row in rows if bears(stock, (top + row)[-stock.reach:], upper.courses)]
                found = bridge_of(lower, upper, number)
                self.same_tuple(found, rights[0] if rights else None)
                if rights:
                    self.assertIs(bridge_fault(lower, upper, found), None)

    def test_greater_numbers(self):
        for stock, lower, upper in list(cases())[::5]:
            leasts = least_bridges(lower, upper)
            for number in (4, 5, 7, 59, 60):
                found = bridge_of(lower, upper, number)
                least = leasts[number % (stock.reach + 1)]
                self.assertEqual(found is not None, least is not None and least <= number)
                if found is not None:
                    self.assertEqual(len(found), number)
                    self.assertIs(bridge_fault(lower, upper, found), None)

    def test_60_in_order(self):
        wall = Wall(TWO, [(2, 2, 3)])
        other = Wall(TWO, [(3, 2, 2)])
        self.same_tuple(bridge_of(wall, other, 60), ((3, 2, 2), (2, 2, 3)) * 30)
        self.assertIs(bridge_of(wall, wall, 60), None)
        self.assertEqual(bridge_of(wall, wall, 59), ((3, 2, 2), (2, 2, 3)) * 29 + ((3, 2, 2),))
        self.same_tuple(bridge_of(wall, other, 0), ())
        self.assertIs(bridge_of(wall, wall, 0), None)
        four = Wall(Stock((1, 2, 3)), [(3,)])
        self.assertEqual(bridge_of(four, four, 60), ((1, 1, 1), (3,)) * 29 + ((1, 1, 1), (3,)))

    def test_shortest(self):
        for stock, lower, upper in cases():
            due = numbers_bridged(stock, lower, upper, 15)
            found = shortest_bridge(lower, upper)
            if any(due):
                self.same_tuple(found, bridge_of(lower, upper, due.index(True)))
            else:
                self.check_none(stock, lower, upper, found)

    def check_none(self, stock, lower, upper, found):
        self.assertIs(type(found), NoBridge)
        layers = tops_behind(stock, lower.length, lower.courses[-stock.reach:], 15)
        self.same_tuple(found.tops, tuple(sorted(set().union(*layers))))
        self.assertIs(nobridge_fault(lower, upper, found.tops), None)

    def test_no_bridge(self):
        one = Wall(TWO, [(2, 3, 2)])
        self.assertEqual(shortest_bridge(one, one), NoBridge((((2, 3, 2),),)))
        upper = Wall(TWO, [(2, 2, 3)])
        self.assertEqual(shortest_bridge(upper, one), NoBridge((((2, 2, 3),), ((3, 2, 2),))))
        three = Wall(Stock((2, 3), 1, 2), [(2, 3)])
        self.assertEqual(shortest_bridge(three, three), NoBridge((((2, 3),), ((2, 3), (3, 2)))))

    def test_number_refused(self):
        wall = Wall(TWO, [(2, 3)])
        self.assertIs(bridge_of(wall, wall, 60), None)
        for number in (-1, 61, 10 ** 30, *NOT_WHOLE):
            self.refused("NoNumber", {"number": number}, bridge_of, wall, wall, number)

    def test_result(self):
        tops = [[1]]
        self.assertIs(NoBridge(tops).tops, tops)
        self.assertIs(NoBridge(((1,),)) == NoBridge(((1,),)), True)
        self.assertIs(NoBridge(((1,),)) != NoBridge(((1,),)), False)
        for other in (NoBridge(()), ((1,),), None):
            self.assertIs(NoBridge(((1,),)) == other, False)
            self.assertIs(NoBridge(((1,),)) != other, True)

    def test_great_stock(self):
        stock = Stock((1, 2, 3, 4), 1, 2)
        laid = round_for(stock, 10)
        lower, upper = wall_from(laid, 60), wall_from(laid, 60)
        found = bridge_of(lower, upper, 60)
        self.assertEqual(len(found), 60)
        self.assertIs(bridge_fault(lower, upper, found), None)
        self.assertTrue(is_right(Wall(stock, found)))


def walks(stock, length, top, number):
    """All rows of courses that begin with the top and go on by `number` courses, ascending."""
    rows = [tuple(top)]
    for _ in range(number):
        rows = [row + (course,) for row in rows for course in next_courses(stock, length, row[-stock.reach:])]
    return rows


class Judged(Case):
    def setUp(self):
        self.stock = Stock((1, 2, 3), 1, 2)
        self.lower = Wall(self.stock, [(1, 3), (3, 1)])
        self.upper = Wall(self.stock, [(1, 3)])

    def test_right_bridges(self):
        for number in (1, 2, 4, 5):
            rows = [row[2:] for row in walks(self.stock, 4, self.lower.courses, number)]
            for row in rows:
                due = slow_right(self.stock, self.lower.courses + row + self.upper.courses)
                self.assertIs(bridge_fault(self.lower, self.upper, row), None if due else "clash")
                self.assertEqual(bridge_fault(self.lower, self.upper, [list(course) for course in row]),
                                 None if due else "clash")

    def test_none_and_many(self):
        turns = [(2, 2), (1, 3), (3, 1)]
        self.assertIs(bridge_fault(self.lower, self.upper, turns * 100 + [(2, 2)]), None)
        self.assertEqual(bridge_fault(self.lower, self.upper, turns * 100), "clash")
        self.assertEqual(bridge_fault(self.lower, self.upper, []), "clash")
        self.assertIs(bridge_fault(self.lower, Wall(self.stock, [(2, 2)]), ()), None)

    def test_words(self):
        for thing in NOT_SEQUENCES:
            self.assertEqual(bridge_fault(self.lower, self.upper, thing), "list")
        for thing in (*NOT_SEQUENCES, (), (4,), (2, True, 1), (1,) * 401):
            self.assertEqual(bridge_fault(self.lower, self.upper, [(2, 2), thing]), "course")
            self.assertEqual(bridge_fault(self.lower, self.upper, [(2, 2), (2, 1), thing]), "length")
            self.assertEqual(bridge_fault(self.lower, self.upper, [thing, (2, 1)]), "course")
        self.assertEqual(bridge_fault(self.lower, self.upper, [(2, 2), (2, 2), (2, 1)]), "length")
        self.assertEqual(bridge_fault(self.lower, self.upper, [(2, 2), (2, 2), (2, 1), (4,)]), "length")
        self.assertEqual(bridge_fault(self.lower, self.upper, [(2, 2), (2, 2)]), "clash")
        self.assertEqual(bridge_fault(self.lower, self.upper, [(3, 1), (2, 2)]), "clash")

    def test_clash_at_the_reach(self):
        stock = Stock((1, 2, 3), 1, 2)
        for courses, word in (([(2, 2)], None), ([(2, 2), (1, 3)], "clash"), ([(2, 2), (1, 3), (3, 1)], "clash")):
            self.assertEqual(bridge_fault(self.lower, Wall(stock, [(1, 3), (3, 1)]), courses), word)


class Shown(Case):
    """nobridge_fault."""

    def setUp(self):
        self.one = Wall(TWO, [(2, 2, 3)])
        self.mid = Wall(TWO, [(2, 3, 2)])
        self.stock = Stock((2, 3), 1, 2)
        self.low = Wall(self.stock, [(2, 3)])

    def test_right_tops(self):
        low, high, mid = ((2, 2, 3),), ((3, 2, 2),), ((2, 3, 2),)
        for tops in ([low, high], [high, low], (high, low, low, high), [[[3, 2, 2]], [[2, 2, 3]]]):
            self.assertIs(nobridge_fault(self.one, self.mid, tops), None)
        # What nothing leads to may be told too: (2, 3, 2) is not apart from itself.
        self.assertIs(nobridge_fault(self.one, self.mid, [low, high, mid]), None)

    def test_tops_of_courses_that_are_not_apart(self):
        low = [((2, 3),), ((2, 3), (3, 2))]
        self.assertIs(nobridge_fault(self.low, self.low, low), None)
        self.assertIs(nobridge_fault(self.low, self.low, [*low, ((2, 3), (2, 3))][:2]), None)
        # Behind (2, 3), (2, 3) comes (3, 2), so that (2, 3), (3, 2) must be told; it is.
        self.assertIs(nobridge_fault(self.low, self.low, [*low, ((2, 3), (2, 3))]), None)
        # Behind (3, 2), (3, 2) comes (2, 3), so that (3, 2), (2, 3) must be told; it is not.
        self.assertEqual(nobridge_fault(self.low, self.low, [*low, ((3, 2), (3, 2))]), "closed")
        self.assertIs(nobridge_fault(self.low, self.low, [*low, ((3, 2), (2, 3))]), None)

    def test_entry(self):
        low, high = ((2, 2, 3),), ((3, 2, 2),)
        for tops in NOT_SEQUENCES:
            self.assertEqual(nobridge_fault(self.one, self.mid, tops), "entry")
        for entry in (*NOT_SEQUENCES, (), ((2, 2, 3), (3, 2, 2)), (2, 2, 3), ((2, 2),), ((2, 4, 1),), (None,),
                      ((2, 2, 2, True),), ((),)):
            self.assertEqual(nobridge_fault(self.one, self.mid, [low, high, entry]), "entry")
            self.assertEqual(nobridge_fault(self.one, self.mid, [entry]), "entry")
        two = ((2, 3), (3, 2))
        self.assertEqual(nobridge_fault(self.low, self.low, [((2, 3),), two, two + ((2, 3),)]), "entry")
        for entry in (((2, 3), (2, 2)), ((2, 2), (2, 3)), ((2, 3), (5,)), ((2, 3), None)):
            self.assertEqual(nobridge_fault(self.low, self.low, [((2, 3),), two, entry]), "entry")

    def test_first(self):
        self.assertEqual(nobridge_fault(self.one, self.mid, []), "first")
        self.assertEqual(nobridge_fault(self.one, self.mid, [((3, 2, 2),)]), "first")
        # Not the whole of a higher wall is its top.
        high = Wall(TWO, [(3, 2, 2), (2, 2, 3)])
        self.assertIs(nobridge_fault(high, self.mid, [((2, 2, 3),), ((3, 2, 2),)]), None)
        # The first word goes for all entries before the next.
        self.assertEqual(nobridge_fault(self.mid, self.mid, [((2, 2, 3),)]), "first")

    def test_closed(self):
        self.assertEqual(nobridge_fault(self.one, self.mid, [((2, 2, 3),)]), "closed")
        self.assertEqual(nobridge_fault(self.low, self.low, [((2, 3),)]), "closed")
        self.assertEqual(nobridge_fault(self.low, self.low, [((2, 3),), ((3, 2),)]), "closed")
        # That an entry bears the upper wall comes only then.
        self.assertEqual(nobridge_fault(self.one, Wall(TWO, [(3, 2, 2)]), [((2, 2, 3),)]), "closed")

    def test_bears(self):
        tops = [((2, 2, 3),), ((3, 2, 2),)]
        self.assertEqual(nobridge_fault(self.one, self.one, tops), "bears")
        self.assertEqual(nobridge_fault(self.one, Wall(TWO, [(3, 2, 2)]), tops), "bears")
        tops = [((2, 3),), ((2, 3), (3, 2))]
        self.assertEqual(nobridge_fault(self.low, Wall(self.stock, [(3, 2)]), tops), "bears")
        self.assertIs(nobridge_fault(self.low, Wall(self.stock, [(3, 2), (2, 3)]), tops), None)

    def test_exactly_those_without_a_bridge(self):
        for stock, lower, upper in cases():
            layers = tops_behind(stock, lower.length, lower.courses[-stock.reach:], 15)
            tops = sorted(set().union(*layers), reverse=True)
            due = any(numbers_bridged(stock, lower, upper, 15))
            self.assertEqual(nobridge_fault(lower, upper, tops), "bears" if due else None)
            if len(tops) > 1:
                self.assertIn(nobridge_fault(lower, upper, tops[1:]), ("first", "closed"))


class Refused(Case):
    CALLS = [lambda one, other: bridge_fault(one, other, None), least_bridges, lambda one, other: bridges_over(one, other, -1),
             lambda one, other: bridge_of(one, other, -1), shortest_bridge,
             lambda one, other: nobridge_fault(one, other, None)]

    def check(self, name, told, one, other):
        for call in self.CALLS:
            self.refused(name, told, call, one, other)

    def test_walls_that_differ(self):
        # Of 11 units, and not right: the first word is due first.
        wrong = Wall(Stock((2, 3), 1, 2), [(2, 3, 3, 3)] * 2)
        self.check("CannotPile", {"what": "stock"}, Wall(TWO, [(2, 3)]), wrong)
        self.check("CannotPile", {"what": "stock"}, wrong, Wall(TWO, [(2, 3)]))
        self.check("CannotPile", {"what": "length"}, Wall(TWO, [(2, 3)]), Wall(TWO, [(2, 3, 3, 3)] * 2))
        self.check("CannotPile", {"what": "length"}, Wall(TWO, [(2, 3, 3, 3)]), Wall(TWO, [(2, 3)]))

    def test_lengths_10_and_11(self):
        wall = Wall(TWO, [(2, 3, 3, 2)])
        self.assertEqual(len(least_bridges(wall, wall)), 2)
        self.assertEqual(bridge_fault(wall, wall, [(3, 3, 2, 2)]), "clash")
        long = Wall(TWO, [(2, 3, 3, 3)])
        self.check("BadLength", {}, long, long)
        self.check("BadLength", {}, Wall(TWO, [(2, 3, 3, 3)] * 2), long)

    def test_walls_that_are_not_right(self):
        right, wrong = Wall(TWO, [(2, 3)]), Wall(TWO, [(2, 3), (2, 3)])
        self.check("NotRight", {}, right, wrong)
        self.check("NotRight", {}, wrong, right)


class Example(Case):
    def test_example(self):
        wall = Wall(TWO, [(2, 2, 3)])
        self.same_tuple(least_bridges(wall, wall), (None, 1))
        self.assertEqual([bridges_over(wall, wall, number) for number in range(6)], [False, True] * 3)
