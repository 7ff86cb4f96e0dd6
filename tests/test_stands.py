"""[4.8] to [4.11]: stands and crowds."""

from itertools import product

from jointsapart.repeating import Repeating
from jointsapart.stands import can_finish, crowd_after, crowd_ring, first_stand, next_stands, unit_steps
from jointsapart.stock import Stock
from tests.helper import NOT_WHOLE, Case, slow_clashes

STOCKS = [Stock((2, 3)), Stock((2, 3), 1, 2), Stock((1, 2, 4), 2, 2), Stock((1, 2), 4, 2), Stock((3, 5), 3, 2),
          Stock((1,), 1, 2), Stock((2,), 2, 2)]


def beginnings(stock, length):
    """All rows of bricks and an unfinished last one, of this length, as (joints, age, fresh)."""
    rows = [[0]]
    found = []
    while rows:
        row = rows.pop()
        if length - row[-1] <= stock.longest:
            found.append((tuple(row[1:]), length - row[-1], len(row) == 1))
        rows += [row + [row[-1] + brick] for brick in stock.bricks if row[-1] + brick <= length]
    return found


def slow_crowd(stock, size, length):
    """The crowd behind so many units, from all beginnings whose joints are kept apart."""
    found = set()
    for chosen in product(beginnings(stock, length), repeat=size):
        joints = [row[0] for row in chosen]
        if all(abs(one - other) >= stock.lap for at, row in enumerate(joints) for far in joints[at + 1:]
               for one in row for other in far):
            found.add(tuple(sorted((age, fresh) for _, age, fresh in chosen)))
    return tuple(sorted(found))


def slow_steps(stock, couples):
    """What [4.8] and [4.9] say, in their words."""
    older = [(age + 1, fresh) for age, fresh in couples]
    rows = []
    for index in (None, *range(len(couples))):
        after = list(older)
        if index is not None:
            if older[index][0] not in stock.bricks:
                continue
            if any(not fresh and age < stock.lap for at, (age, fresh) in enumerate(older) if at != index):
                continue
            after[index] = (0, False)
        if max(age for age, _ in after) <= max(stock.bricks):
            rows.append((index, tuple(after)))
    return tuple(rows)


class Steps(Case):
    def test_against_the_words(self):
        for stock in STOCKS:
            couples = [(age, fresh) for age in range(stock.longest + 1) for fresh in (False, True)]
            for size in (1, 2, 3):
                for chosen in list(product(couples, repeat=size))[::1 if size < 3 else 5]:
                    self.same_tuple(unit_steps(stock, chosen), slow_steps(stock, chosen))
                    self.assertEqual(unit_steps(stock, list(chosen)), slow_steps(stock, chosen))

    def test_six_couples_whatever_the_reach(self):
        stock = Stock((2, 3), 2)
        couples = ((1, True), (2, True), (1, False), (1, True), (0, True), (2, True))
        rows = unit_steps(stock, couples)
        self.same_tuple(rows, slow_steps(stock, couples))
        self.assertEqual([index for index, _ in rows], [None, 0, 1, 2, 3, 5])
        lone = unit_steps(stock, couples[:2] + ((0, False),) + couples[3:])
        self.assertEqual([index for index, _ in lone], [None])

    def test_order_of_the_courses_is_kept(self):
        stock = Stock((1, 2))
        self.assertEqual(unit_steps(stock, ((1, True), (0, False))),
                         ((None, ((2, True), (1, False))), (0, ((0, False), (1, False))), (1, ((2, True), (0, False)))))

    def test_too_old(self):
        stock = Stock((2, 3))
        self.assertEqual(unit_steps(stock, ((3, False), (1, True))), ())
        self.assertEqual(unit_steps(stock, ((2, False), (2, True))),
                         ((None, ((3, False), (3, True))), (0, ((0, False), (3, True))), (1, ((3, False), (0, False)))))

    def test_lap(self):
        stock = Stock((3,), 3)
        for age, due in ((0, [None]), (1, [None]), (2, [None, 0, 1])):
            self.assertEqual([index for index, _ in unit_steps(stock, ((2, True), (age, False)))], due)
        self.assertEqual([index for index, _ in unit_steps(stock, ((2, True), (0, True)))], [None, 0])

    def test_later_changes_have_no_effect(self):
        couples = [(1, True), (0, False)]
        rows = unit_steps(Stock((1, 2)), couples)
        couples[0] = (7, True)
        self.assertEqual(rows[0], (None, ((2, True), (1, False))))


class Stands(Case):
    def test_first_stand(self):
        for size in (1, 2, 3):
            self.same_tuple(first_stand(size), tuple((0, True) for _ in range(size)))
            self.assertIs(first_stand(size)[0][1], True)
        for size in (0, 4, -1, *NOT_WHOLE):
            self.refused("BadSize", {}, first_stand, size)

    def test_next_stands(self):
        for stock in STOCKS:
            couples = [(age, fresh) for age in range(stock.longest + 1) for fresh in (False, True)]
            for size in (1, 2, 3):
                for chosen in list(product(couples, repeat=size))[::1 if size < 3 else 5]:
                    stand = tuple(sorted(chosen))
                    due = sorted({tuple(sorted(after)) for _, after in slow_steps(stock, stand)})
                    self.same_tuple(next_stands(stock, stand), tuple(due))

    def test_alike_stands_come_once(self):
        self.assertEqual(next_stands(Stock((1, 2)), ((0, True), (0, True))),
                         (((0, False), (1, True)), ((1, True), (1, True))))

    def test_can_finish(self):
        stock = Stock((2, 4))
        for ages, due in (((2,), True), ((4, 2), True), ((2, 3), False), ((0, 2), False), ((0,), False), ((1,), False),
                          ((2, 2, 4), True), ((4, 4, 5), False)):
            stand = tuple(sorted((age, fresh) for age, fresh in zip(ages, (False, True, False))))
            self.assertIs(can_finish(stock, stand), due)


class Crowds(Case):
    def test_against_all_beginnings(self):
        for stock in STOCKS:
            for size in range(1, stock.reach + 2):
                ring = crowd_ring(stock, size)
                for units in range(9 if size < 3 else 6):
                    due = slow_crowd(stock, size, units)
                    self.same_tuple(ring.at(units), due)
                    self.same_tuple(crowd_after(stock, size, units), due)

    def test_ring(self):
        for stock in STOCKS:
            for size in range(1, stock.reach + 2):
                ring = crowd_ring(stock, size)
                self.assertIs(type(ring), Repeating)
                self.same_tuple(ring.things[0], (first_stand(size),))
                self.assertEqual(len(set(ring.things)), len(ring.things))
                following = [*ring.things[1:], ring.things[ring.back]]
                for crowd, after in zip(ring.things, following):
                    self.assertEqual(after, tuple(sorted({row for stand in crowd for row in next_stands(stock, stand)})))

    def test_crowds_that_become_empty(self):
        # A second course of these bricks has no room for its joints.
        stock = Stock((1,))
        ring = crowd_ring(stock, 2)
        self.assertEqual(ring, Repeating(((((0, True), (0, True)),), (((0, False), (1, True)), ((1, True), (1, True))), ()), 2))
        self.assertEqual(crowd_after(stock, 2, 10 ** 30), ())
        self.assertEqual(len(crowd_ring(stock, 2, most=3).things), 3)
        self.refused("Wide", {"most": 2}, crowd_ring, stock, 2, most=2)

    def test_far(self):
        stock = Stock((2, 3), 1, 1)
        ring = crowd_ring(stock, 2)
        round_of = len(ring.things) - ring.back
        for units in (10 ** 30, 10 ** 30 - 1):
            near = ring.back + (units - ring.back) % round_of
            self.assertEqual(crowd_after(stock, 2, units), ring.things[near])

    def test_most(self):
        stock = Stock((2, 3), 1, 2)
        many = len(crowd_ring(stock, 3).things)
        self.assertEqual(crowd_ring(stock, 3, most=many), crowd_ring(stock, 3, most=4000))
        self.assertEqual(crowd_after(stock, 3, 0, most=many), (first_stand(3),))
        for most in (1, many - 1):
            self.refused("Wide", {"most": most}, crowd_ring, stock, 3, most=most)
            # For any units, also for those that are reached before the bound is.
            for units in (0, 1, 10 ** 30):
                self.refused("Wide", {"most": most}, crowd_after, stock, 3, units, most=most)

    def test_refused_in_order(self):
        for stock in (Stock((2, 3)), Stock((2, 3), 1, 2)):
            for size in (0, stock.reach + 2, -1, *NOT_WHOLE):
                self.refused("BadSize", {}, crowd_ring, stock, size, most=0)
                self.refused("BadSize", {}, crowd_after, stock, size, -1, most=0)
            for units in (-1, 10 ** 30 + 1, *NOT_WHOLE):
                self.refused("BadLength", {}, crowd_after, stock, 1, units, most=0)
            for most in (0, 4001, -1, *NOT_WHOLE):
                self.refused("BadMost", {}, crowd_ring, stock, 2, most=most)
                self.refused("BadMost", {}, crowd_after, stock, 2, 0, most=most)


class Apart(Case):
    def test_slow_crowd_knows_clashes(self):
        """The plain answer above keeps joints apart as the rest of the tests do."""
        self.assertEqual(slow_clashes(Stock((1, 2), 2), (1, 2), (2, 1)), [(1, 2)])
        self.assertNotIn(((1, False), (1, False)), slow_crowd(Stock((1, 2), 2, 1), 2, 3))
