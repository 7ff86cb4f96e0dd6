"""[5.10] to [5.12]: plans, what shows that there is none, and rows that are played."""

from jointsapart.ends import end_of
from jointsapart.gaps import gap_fault
from jointsapart.notice import finishing_crowd, met_crowd, notice_does, phase_of
from jointsapart.plans import NoPlan, Plan, noplan_fault, notice_plan, plan_fault, played_rows, stand_at
from jointsapart.stands import can_finish, first_stand, next_stands
from jointsapart.stock import Stock
from tests.helper import NOT_WHOLE, Case, all_ends

STOCKS = [Stock((2, 3)), Stock((1, 2), 2), Stock((2, 3), 1, 2), Stock((3, 5), 2), Stock((3,), 1), Stock((2, 4), 1)]
TWO = Stock((2, 3))
NOTHING = first_stand(2)
FAR = 10 ** 30
CLOCKS = ((1, 0), (1, 4), (2, 0), (3, 1), (6, 60))


def some_ends():
    for stock in STOCKS:
        for size in range(1, stock.reach + 2):
            for end in all_ends(stock, size)[::7 if size < 3 else 37]:
                yield stock, end


class Made(Case):
    def test_a_plan_exactly_if_the_notice_does(self):
        for stock, end in some_ends():
            for every, since in CLOCKS:
                for units in (0, 1, 2, 3, 5, 8, FAR):
                    clock = {"every": every, "since": since}
                    found = notice_plan(stock, [list(couple) for couple in end], units, **clock)
                    if notice_does(stock, end, units, **clock):
                        self.assertIs(type(found), Plan)
                        self.same_tuple((found.way, found.ring), (found.way, found.ring))
                        self.assertIs(plan_fault(stock, end, found, units, **clock), None)
                        self.check_far(stock, end, found, units, every, since)
                    else:
                        self.assertIs(type(found), NoPlan)
                        self.same_tuple(found.bounds, tuple(sorted(found.bounds)))
                        self.assertIs(noplan_fault(stock, end, found, units, **clock), None)

    def check_far(self, stock, end, plan, units, every, since):
        """Some moments near and far: each stand comes of the one before, and can finish at the calls."""
        crowd = finishing_crowd(stock, end, units)
        for first in (0, since, 10 ** 30 - 40):
            for moment in range(first, first + 15):
                self.assertIn(stand_at(plan, moment + 1), next_stands(stock, stand_at(plan, moment)))
                if moment >= since and (moment - since) % every == 0:
                    self.assertIn(stand_at(plan, moment), crowd)

    def test_the_end_itself_fails(self):
        for stock, end in some_ends():
            if tuple(sorted(end)) not in finishing_crowd(stock, end, 4):
                self.assertEqual(notice_plan(stock, end, 4).bounds, ())
                self.assertEqual(notice_plan(stock, end, 4, every=5).bounds, ())

    def test_example(self):
        self.assertIs(type(notice_plan(TWO, NOTHING, 5)), Plan)
        self.assertEqual(notice_plan(TWO, NOTHING, 4), NoPlan(()))
        self.assertIs(type(notice_plan(TWO, NOTHING, 4, every=2)), NoPlan)
        self.assertIs(type(notice_plan(TWO, NOTHING, 3, every=2)), Plan)

    def test_clock_by_default(self):
        """Calls at any moment from the beginning."""
        self.assertIs(type(notice_plan(TWO, NOTHING, 3)), NoPlan)
        self.assertIs(type(notice_plan(TWO, NOTHING, 3, every=2)), Plan)
        plan = notice_plan(TWO, NOTHING, 5)
        self.assertEqual(plan, notice_plan(TWO, NOTHING, 5, every=1, since=0))
        odd = Plan(plan.way + plan.ring, plan.ring * 3)
        self.assertEqual(len(odd.ring) % 2, 1)
        self.assertIs(plan_fault(TWO, NOTHING, odd, 5), None)
        none = notice_plan(TWO, NOTHING, 3)
        self.assertIs(noplan_fault(TWO, NOTHING, none, 3), None)
        self.assertEqual(noplan_fault(TWO, NOTHING, none, 3, every=2), "bound")

    def test_equal(self):
        plan = Plan(((1,),), ((2,),))
        self.assertIs(plan == Plan(((1,),), ((2,),)), True)
        self.assertIs(plan != Plan(((1,),), ((2,),)), False)
        for other in (Plan((), ((2,),)), Plan(((1,),), ((1,),)), NoPlan(((1,),)), ((1,), (2,)), None):
            self.assertIs(plan == other, False)
            self.assertIs(plan != other, True)
        self.assertIs(NoPlan(((0, (), 1),)) == NoPlan(((0, (), 1),)), True)
        for other in (NoPlan(()), Plan((), ()), (((0, (), 1),),), None):
            self.assertIs(NoPlan(((0, (), 1),)) == other, False)
            self.assertIs(NoPlan(((0, (), 1),)) != other, True)
        way, bounds = [1], [2]
        self.assertIs(Plan(way, bounds).way, way)
        self.assertIs(Plan(way, bounds).ring, bounds)
        self.assertIs(NoPlan(bounds).bounds, bounds)

    def test_refused_in_order(self):
        plan = notice_plan(TWO, NOTHING, 5)
        none = notice_plan(TWO, NOTHING, 4)
        for call in (notice_plan, lambda stock, end, units, **more: plan_fault(stock, end, plan, units, **more),
                     lambda stock, end, units, **more: noplan_fault(stock, end, none, units, **more)):
            self.refused("BadEnd", {"what": "begun"}, call, TWO, ((0, True), (1, True)), -1, every=0)
            for units in (-1, 10 ** 30 + 1, *NOT_WHOLE):
                self.refused("BadLength", {}, call, TWO, NOTHING, units, every=0)
            for every in (0, 7, *NOT_WHOLE):
                self.refused("BadClock", {"what": "every"}, call, TWO, NOTHING, 5, every=every, since=-1)
            for since in (-1, 61, *NOT_WHOLE):
                self.refused("BadClock", {"what": "since"}, call, TWO, NOTHING, 5, since=since)


class StandAt(Case):
    def test_stand_at(self):
        plan = Plan(("a", "b"), ("c", "d", "e"))
        self.assertEqual([stand_at(plan, moment) for moment in range(9)], list("abcdecdec"))
        self.assertEqual(stand_at(plan, 10 ** 30), "cde"[(10 ** 30 - 2) % 3])
        self.assertEqual(stand_at(Plan((), ("c",)), 0), "c")
        for moment in (-1, 10 ** 30 + 1, *NOT_WHOLE):
            self.refused("BadLength", {}, stand_at, plan, moment)


class PlanFault(Case):
    def setUp(self):
        self.plan = notice_plan(TWO, NOTHING, 3, every=2)
        self.way = self.plan.way
        self.ring = self.plan.ring

    def check(self, word, way, ring, end=NOTHING, units=3, every=2, since=0):
        self.assertEqual(plan_fault(TWO, end, Plan(way, ring), units, every=every, since=since), word)

    def test_right_things_that_the_program_does_not_make(self):
        for stock, end in some_ends():
            for units in (3, 6):
                found = notice_plan(stock, end, units, every=2, since=3)
                if isinstance(found, Plan):
                    longer = Plan((*found.way, *found.ring, *found.ring), found.ring * 3)
                    turned = Plan((*found.way, found.ring[0]), (*found.ring[1:], found.ring[0]))
                    empty = Plan((), found.ring)
                    for plan in (longer, turned):
                        self.assertIs(plan_fault(stock, end, plan, units, every=2, since=3), None)
                    if not found.way:
                        self.assertIs(plan_fault(stock, end, empty, units, every=2, since=3), None)
        self.check(None, self.way + self.ring, self.ring)
        # Calls that never come need no stand that can finish.
        self.check("call", self.way, self.ring, every=1)

    def test_ring(self):
        self.check("ring", self.way, ())
        self.check("ring", self.way, self.ring + self.ring[:1])
        self.check("ring", (), (5,))
        self.check("ring", self.way, self.ring, every=6) if len(self.ring) % 6 else None

    def test_first(self):
        stands = (*self.way, *self.ring)
        self.check("first", stands[1:], self.ring)
        self.check("first", (NOTHING,) + self.way, self.ring, ((1, True), (1, True)))
        # 1 is no truth, and a list is no stand.
        for start in (((0, 1), (0, 1)), ((False, True), (0, True)), [(0, True), (0, True)], ((0, True),), None, 5):
            self.check("first", (start, *stands[1:]), self.ring)
        self.check(None, stands, self.ring, ((0, True), (0, True)))

    def test_unit(self):
        stands = (*self.way, *self.ring)
        for at in range(1, len(stands)):
            for wrong in (stands[0], None, [list(couple) for couple in stands[at]],
                          tuple((age, int(fresh)) for age, fresh in stands[at])):
                self.check("unit", (*stands[:at], wrong, *stands[at + 1:]), self.ring)
        # From the last one of the ring to its first.
        self.check("unit", (), stands + (stands[-1],) * (len(stands) % 2))
        self.check("unit", stands[:1], ((((1, True), (1, True)), ((2, True), (2, True)))))

    def test_call(self):
        three = Stock((3,))
        ring = (((0, False),), ((1, False),), ((2, False),))
        self.assertIs(plan_fault(three, ring[0], Plan((), ring), 3, every=3), None)
        self.assertEqual(plan_fault(three, ring[0], Plan((), ring), 2, every=3), "call")
        self.assertIs(plan_fault(three, ring[0], Plan((), ring), 2, every=3, since=1), None)
        self.assertIs(plan_fault(three, ring[0], Plan((), ring), FAR, every=3, since=(-FAR) % 3), None)
        self.assertEqual(plan_fault(three, ring[0], Plan((), ring), FAR, every=3, since=(1 - FAR) % 3), "call")
        # Only behind the way, and only in the first turn of a long ring with a late clock.
        self.assertEqual(plan_fault(three, ring[0], Plan(ring * 5, ring), 1, every=3, since=58), "call")
        self.assertIs(plan_fault(three, ring[0], Plan(ring * 30, ring), 1, every=3, since=59), None)

    def test_call_is_asked_at_each_moment_of_way_and_ring(self):
        """One turn after another is made one in which the stands cannot finish."""
        stock = Stock((2, 5))
        short = (((0, False),), ((1, False),))
        long = tuple(((age, False),) for age in range(5)) * 2
        for at in range(-1, 6):
            turns = [long if at == number else short for number in range(6)]
            way = tuple(stand for turn in turns[:3] for stand in turn)
            ring = tuple(stand for turn in turns[3:] for stand in turn)
            word = plan_fault(stock, short[0], Plan(way, ring), 1, every=2, since=1)
            self.assertEqual(word, None if at < 0 else "call")
            # What is in the way does not matter to a clock that begins behind it.
            word = plan_fault(stock, short[0], Plan(way, ring), 1, every=2, since=21)
            self.assertEqual(word, None if at < 3 else "call")


class NoPlanFault(Case):
    """Two courses that can end at once can hardly go on: a notice of 0 does not do."""

    def setUp(self):
        self.clock = {"every": 2, "since": 7}
        self.none = notice_plan(TWO, NOTHING, 0, **self.clock)
        self.rows = self.none.bounds

    def check(self, word, rows, units=0, end=NOTHING):
        self.assertEqual(noplan_fault(TWO, end, NoPlan(tuple(rows)), units, **self.clock), word)

    def test_there_are_rows(self):
        self.assertGreater(len(self.rows), 8)
        self.check(None, self.rows)

    def test_right_things_that_the_program_does_not_make(self):
        self.check(None, self.rows[::-1])
        self.check(None, [(phase, stand, 3 * bound + 7) for phase, stand, bound in self.rows])
        self.check(None, [(phase, stand, bound * 10 ** 40) for phase, stand, bound in self.rows])
        # A stand from which no way leads on, whether it is met or not.
        self.check(None, [*self.rows, (1, ((3, False), (3, True)), 0), (1, ((3, False), (3, False)), 5)])
        self.check(None, self.rows, 0, [[0, True], [0, True]])

    def test_each_row_is_needed(self):
        words = set()
        for at in range(len(self.rows)):
            words.add(noplan_fault(TWO, NOTHING, NoPlan(self.rows[:at] + self.rows[at + 1:]), 0, **self.clock))
        self.assertEqual(words, {"first", "bound"})

    def test_first(self):
        self.check("first", ())
        self.check("first", [row for row in self.rows if row[0] > 0])
        self.check("first", [row for row in self.rows if row[0] > 0] * 2)
        # What only looks like a row shows nothing.
        start = [row for row in self.rows if row[0] == 0][0]
        others = [row for row in self.rows if row != start]
        for row in ((False, *start[1:]), (0, ((0, 1), (0, 1)), start[2]), (*start[:2], True), (*start[:2], None), [*start],
                    (*start, 1), None):
            self.check("first", [row, *others])
        self.check("first", [*others, (9, *start[1:])])
        self.check(None, [*self.rows, (9, *start[1:])])
        # The end itself fails: nothing needs to be told.
        self.assertIs(noplan_fault(TWO, NOTHING, NoPlan(()), 4, every=2), None)
        self.assertIs(noplan_fault(TWO, NOTHING, NoPlan(()), 1), None)

    def test_twice(self):
        self.check("twice", [*self.rows, self.rows[0]])
        phase, stand, bound = self.rows[-1]
        self.check("twice", [*self.rows, (phase, stand, bound + 1)])
        self.check("twice", [*self.rows, self.rows[0], (7, ((0, False), (1, False)), 9)])

    def test_fails(self):
        failing = [stand for stand in met_crowd(TWO, NOTHING) if not can_finish(TWO, stand)][0]
        self.check("fails", [*self.rows, (7, failing, 99)])
        self.assertEqual(noplan_fault(TWO, NOTHING, NoPlan(((0, NOTHING, 5),)), 4, every=2), "fails")
        # Before "bound" is asked.
        self.check("fails", [self.rows[0], (7, failing, 0)])

    def test_bound(self):
        for at, (phase, stand, bound) in enumerate(self.rows):
            if bound > 0:
                self.check("bound", [*self.rows[:at], (phase, stand, bound - 1), *self.rows[at + 1:]])
        self.check("bound", [(phase, stand, 0) for phase, stand, _ in self.rows])
        # Where the notice does, no rows are right.
        clock = {"every": 2, "since": 0}
        rows = [(phase, stand, 1) for stand in met_crowd(TWO, NOTHING) for phase in (0, 1)]
        calls = finishing_crowd(TWO, NOTHING, 3)
        rows = [row for row in rows if row[0] == 1 or row[1] in calls]
        self.assertEqual(noplan_fault(TWO, NOTHING, NoPlan(tuple(rows)), 3, **clock), "bound")

    def test_phases_go_round(self):
        """Behind the last phase comes the one of the calls."""
        three = Stock((3,))
        found = notice_plan(three, ((0, True),), 3, every=6, since=3)
        self.assertIs(type(found), Plan)
        found = notice_plan(three, ((0, True),), 3, every=4, since=3)
        self.assertIs(type(found), NoPlan)
        self.assertEqual([row[0] for row in found.bounds], [0, 1, 2, 3, 4, 5, 6, 6])
        self.assertEqual([row[2] for row in found.bounds], [6, 5, 4, 3, 2, 1, 0, 0])
        self.assertIs(noplan_fault(three, ((0, True),), found, 3, every=4, since=3), None)
        for moment in range(20):
            self.assertEqual(phase_of(moment, every=4, since=3), moment if moment < 3 else 3 + (moment - 3) % 4)

    def test_far_units(self):
        three = Stock((3,))
        for units in (FAR, FAR - 1, FAR - 2):
            found = notice_plan(three, ((0, True),), units, every=2, since=1)
            self.assertIs(noplan_fault(three, ((0, True),), found, units, every=2, since=1), None)


class Played(Case):
    def check(self, stock, end, plan, moment, units, rows):
        """Rows of the told sums; cut at each moment they have the plan's stand."""
        self.same_tuple(rows, rows)
        begun = len(end) * ((0, True),)
        self.assertIs(gap_fault(stock, end, begun, moment + units, rows), None)
        for number in range(moment + 1):
            couples = []
            for row, (age, fresh) in zip(rows, end):
                places = [sum(row[:many]) - age for many in range(1, len(row))]
                past = [place for place in places if place <= number]
                couples.append((number - max(past), False) if past else (age + number, fresh))
            self.assertEqual(tuple(sorted(couples)), stand_at(plan, number))

    def test_against_the_stands(self):
        for stock, end in some_ends():
            for units in (1, 2, 4, 7):
                plan = notice_plan(stock, end, units, every=2, since=1)
                if isinstance(plan, Plan):
                    for moment in (0, 1, 2, 5, 9):
                        for more in (units, units + 1, 0):
                            rows = played_rows(stock, [list(couple) for couple in end], plan, moment, more)
                            if stand_at(plan, moment) in finishing_crowd(stock, end, more):
                                self.check(stock, end, plan, moment, more, rows)
                            else:
                                self.assertIs(rows, None)

    def test_edges(self):
        plan = notice_plan(TWO, NOTHING, 5)
        for moment, units in ((200, 0), (0, 200), (195, 5), (0, 0), (0, 1), (1, 0), (100, 100)):
            rows = played_rows(TWO, NOTHING, plan, moment, units)
            if stand_at(plan, moment) in finishing_crowd(TWO, NOTHING, units):
                self.check(TWO, NOTHING, plan, moment, units, rows)
            else:
                self.assertIs(rows, None)
        self.assertIs(played_rows(TWO, NOTHING, plan, 0, 0), None)
        one = Stock((1, 2))
        plan = notice_plan(one, ((1, True),), 0, every=2)
        self.assertEqual(played_rows(one, ((1, True),), plan, 0, 0), ((1,),))
        self.assertEqual(sum(played_rows(one, ((1, True),), Plan((((1, True),),), (((2, True),), ((1, False),))), 1, 0)[0]), 2)

    def test_order_of_the_courses(self):
        end = ((2, True), (0, False))
        plan = notice_plan(TWO, end, 5)
        rows = played_rows(TWO, end, plan, 4, 5)
        self.check(TWO, end, plan, 4, 5, rows)
        self.assertEqual([sum(row) for row in rows], [11, 9])
        whole = end_of(TWO, ((2, 3), (3, 2)), 3)
        plan = notice_plan(TWO, whole, 5)
        self.check(TWO, whole, plan, 7, 5, played_rows(TWO, whole, plan, 7, 5))

    def test_refused_in_order(self):
        plan = notice_plan(TWO, NOTHING, 5)
        faulty = Plan((), ())
        for made in (plan, faulty, Plan((5,), (7,))):
            self.refused("BadEnd", {"what": "many"}, played_rows, TWO, (), made, -1, 0)
            for moment in (-1, 201, *NOT_WHOLE):
                self.refused("BadLength", {}, played_rows, TWO, NOTHING, made, moment, 0)
            for units in (-1, 151, 201, *NOT_WHOLE):
                self.refused("BadLength", {}, played_rows, TWO, NOTHING, made, 50, units)
