"""[10.7] and [10.8]: wishes, and what shows that they are broken."""

from jointsapart.crackrates import crack_rate
from jointsapart.cracks import Prices
from jointsapart.lengths import Barred, barred_fault, courses_for, length_calendar
from jointsapart.plans import NoPlan, Plan, notice_plan
from jointsapart.rounds import Round, rotated
from jointsapart.sides import side_round
from jointsapart.stands import first_stand
from jointsapart.stock import Stock
from jointsapart.strongest import Strongest, strongest_round
from jointsapart.wishes import Broken, broken_fault, broken_wish
from tests.helper import NOT_RATIOS, NOT_SEQUENCES, NOT_WHOLE, Case

TWO = Stock((2, 3))
STOCKS = [TWO, Stock((2, 3), 1, 2), Stock((1,)), Stock((3, 5), 2), Stock((1, 3, 4), 1, 2), Stock((8,), 4, 2), Stock((5, 6, 7, 8), 2, 2)]
PRICES = Prices(3, 4)
GOOD = [("every", 5), ("not every", 4), ("from", 5), ("notice", 5), ("side", 1, 7), ("strong", 5, PRICES, (3, 2))]
BAD = [("every", 4), ("not every", 5), ("from", 4), ("notice", 4), ("side", 1, 3), ("strong", 5, PRICES, (5, 3))]


class Wishes(Case):
    def test_each_word(self):
        for wish in GOOD:
            self.assertIs(broken_wish(TWO, [wish]), None)
            self.assertIs(broken_wish(TWO, (list(wish),)), None)
        for wish in BAD:
            found = broken_wish(TWO, [wish])
            self.assertIs(type(found), Broken)
            self.assertEqual(found.index, 0)

    def test_why(self):
        whys = [broken_wish(TWO, [wish]).why for wish in BAD]
        self.assertIs(type(whys[0]), Barred)
        self.assertEqual(whys[0], courses_for(TWO, 4))
        self.assertEqual(whys[1], ((2, 3), (3, 2)))
        self.assertEqual(whys[2], 4)
        self.assertEqual(whys[3], notice_plan(TWO, first_stand(2), 4))
        self.assertIs(type(whys[3]), NoPlan)
        self.assertIs(whys[4], None)
        self.assertIs(type(whys[5]), Strongest)
        self.assertEqual((whys[5].laid.courses, whys[5].ratio), (((2, 3), (3, 2)), (3, 2)))
        self.assertIs(broken_wish(TWO, [("strong", 4, PRICES, (0, 1))]).why, None)

    def test_every_and_from(self):
        for stock in STOCKS:
            calendar = length_calendar(stock)
            for length in (*range(1, 20), 59, 60):
                found = broken_wish(stock, [("every", length)])
                self.assertIs(found is None, length in calendar)
                self.assertIs(broken_wish(stock, [("not every", length)]) is None, length not in calendar)
                broken = [later for later in range(length, length + 200) if later not in calendar]
                found = broken_wish(stock, [("from", length)])
                self.assertEqual(found if found is None else found.why, broken[0] if broken else None)
                for wish in (("every", length), ("not every", length), ("from", length)):
                    found = broken_wish(stock, [wish])
                    if found is not None:
                        self.assertIs(broken_fault(stock, [wish], found), None)

    def test_the_others(self):
        for stock in STOCKS:
            for units in (0, 1, 3, 5, 8, 60):
                found = broken_wish(stock, [("notice", units)])
                plan = notice_plan(stock, first_stand(stock.reach + 1), units)
                self.assertIs(found is None, isinstance(plan, Plan))
            for breadth in range(1, 5):
                for side in range(2 * breadth + 1, 13):
                    found = broken_wish(stock, [("side", breadth, side)])
                    self.assertIs(found is None, side_round(stock, breadth, side) is not None)
            for length in range(2, 9):
                strongest = strongest_round(stock, length, PRICES)
                for ratio in ((0, 1), (3, 2), (151, 100), (3, 1), (10 ** 40, 1)):
                    found = broken_wish(stock, [("strong", length, PRICES, ratio)])
                    due = strongest is not None and strongest.ratio[0] * ratio[1] >= ratio[0] * strongest.ratio[1]
                    self.assertIs(found is None, due)

    def test_the_first_that_is_not_fulfilled(self):
        for many in range(1, 5):
            for index in range(many):
                for bad in BAD:
                    wishes = [*GOOD[:index], bad, *BAD[:many - index - 1]]
                    self.assertEqual(broken_wish(TWO, wishes).index, index)
            self.assertIs(broken_wish(TWO, GOOD[:many]), None)
            self.assertIs(broken_wish(TWO, GOOD[-many:]), None)

    def test_refused_in_order(self):
        for function in (lambda wishes: broken_wish(TWO, wishes), lambda wishes: broken_fault(TWO, wishes, Broken(0, None))):
            for wishes in ((), [GOOD[0]] * 5, [None] * 5, *NOT_SEQUENCES):
                self.refused("BadWish", {"index": 0, "what": "sequence"}, function, wishes)
            for index in range(4):
                for wrong in ((), ("every",), ("every", 5, 5), ("side", 1), ("side", 1, 7, 7), ("strong", 5, PRICES), ("notice",),
                              ("strong", 5, PRICES, (1, 1), 1), ("all", 5), ("Every", 5), (None, 5), (["every"], 5), "ev", *NOT_SEQUENCES):
                    wishes = [*[BAD[0]] * index, wrong, *[("every", 0)] * (3 - index)]
                    self.refused("BadWish", {"index": index, "what": "wish"}, function, wishes)
                for wrong in self.wrong_values():
                    wishes = [*[BAD[0]] * index, wrong, *[None] * (3 - index)]
                    self.refused("BadWish", {"index": index, "what": "value"}, function, wishes)

    def wrong_values(self):
        for word in ("every", "not every", "from"):
            for length in (0, 61, -1, *NOT_WHOLE):
                yield (word, length)
        for wrong in (61, -1, *NOT_WHOLE):
            yield ("notice", wrong)
        for wrong in (0, 5, -1, *NOT_WHOLE):
            yield ("side", wrong, 12)
        for breadth in range(1, 5):
            for wrong in (2 * breadth, 13, *NOT_WHOLE):
                yield ("side", breadth, wrong)
        for wrong in (1, 9, -1, *NOT_WHOLE):
            yield ("strong", wrong, PRICES, (1, 1))
        for wrong in (None, (3, 4), 3):
            yield ("strong", 5, wrong, (1, 1))
        for wrong in ((-1, 2), *NOT_RATIOS):
            yield ("strong", 5, PRICES, wrong)

    def test_bounds_of_values(self):
        for wish in (("every", 1), ("every", 60), ("not every", 1), ("from", 60), ("notice", 0), ("notice", 60), ("side", 1, 3), ("side", 4, 9),
                     ("side", 4, 12), ("strong", 2, Prices(0, 0), (0, 1)), ("strong", 8, PRICES, (10 ** 299, 1))):
            found = broken_wish(TWO, [wish])
            if found is not None:
                self.assertIs(broken_fault(TWO, [wish], found), None)

    def test_results_keep_what_they_are_given(self):
        index, why = [], []
        self.assertIs(Broken(index, why).index, index)
        self.assertIs(Broken(index, why).why, why)


class Judged(Case):
    def check(self, word, wish, why, stock=TWO):
        self.assertEqual(broken_fault(stock, [wish], Broken(0, why)), word)
        self.assertEqual(broken_fault(stock, [("every", 60), wish], Broken(1, why)), word)
        self.assertEqual(broken_fault(stock, [("every", 60), wish], Broken(0, why)), "index")

    def test_what_the_program_tells(self):
        for index in range(4):
            for wish in BAD:
                wishes = [*GOOD[:index], wish]
                found = broken_wish(TWO, wishes)
                self.assertIs(broken_fault(TWO, wishes, found), None)
                for wrong in (index - 1, index + 1, None, str(index), (index,), index == 1):
                    self.assertEqual(broken_fault(TWO, wishes, Broken(wrong, found.why)), "index")

    def test_index(self):
        why = broken_wish(TWO, [BAD[0]]).why
        self.assertEqual(broken_fault(TWO, [BAD[0]], Broken(False, why)), "index")
        self.assertEqual(broken_fault(TWO, [GOOD[0], BAD[0]], Broken(True, why)), "index")
        self.assertEqual(broken_fault(TWO, [BAD[0], BAD[0]], Broken(1, why)), "index")
        for index in (0, 1, None):
            self.assertEqual(broken_fault(TWO, GOOD[:2], Broken(index, None)), "index")

    def test_every(self):
        barred = courses_for(TWO, 4)
        more = [(*crowd, ((0, False), (0, False))) for crowd in barred.crowds]
        self.check(None, ("every", 4), barred)
        self.check(None, ("every", 4), Barred(2, [crowd[::-1] for crowd in barred.crowds]))
        # More stands that come to nothing do no harm.
        self.check(barred_fault(TWO, 2, 4, Barred(2, more)) and "why", ("every", 4), Barred(2, more))
        for why in (None, 4, (), barred.crowds, Barred(3, barred.crowds), Barred(2, barred.crowds[:-1]), Barred(2, None),
                    courses_for(TWO, 1), notice_plan(TWO, first_stand(2), 4), Barred(2, ((), *barred.crowds[1:])),
                    Barred(2, (*barred.crowds[:-1], ())), Barred(True, barred.crowds), "why"):
            self.check("why", ("every", 4), why)
        # Of a reach of 2 three courses are asked.
        three = Stock((2, 3), 1, 2)
        found = broken_wish(three, [("every", 5)]).why
        self.assertEqual(found.size, 3)
        self.assertIs(broken_fault(three, [("every", 5)], Broken(0, found)), None)
        self.assertEqual(broken_fault(three, [("every", 5)], Broken(0, courses_for(three, 4, size=2))), "why")

    def test_not_every(self):
        wish = ("not every", 7)
        self.check(None, wish, ((2, 2, 3), (3, 2, 2)))
        # Another right lot than the program's, and wrong ones.
        stock = Stock((1, 2, 3))
        lots = [((1, 2, 2), (2, 2, 1)), ((1, 3, 1), (2, 1, 2)), ((1, 3, 1), (3, 2)), ((2, 3), (3, 2))]
        for lot in lots:
            due = None if lot == tuple(sorted(lot)) and not {sum(lot[0][:at]) for at in range(1, len(lot[0]))} & {
                sum(lot[1][:at]) for at in range(1, len(lot[1]))} else "why"
            self.assertEqual(broken_fault(stock, [("not every", 5)], Broken(0, lot)), due)
        for why in (((3, 2, 2), (2, 2, 3)), ((2, 2, 3),), ((2, 2, 3), (3, 2, 2), (3, 2, 2)), ((2, 2, 3), (2, 2, 3)), ((2, 3), (3, 2)), (),
                    ((2, 2, 3), (2, 3, 2)), None, 7, courses_for(TWO, 4), ((7,), (7,)), ((2, 2, 3), None), "ab", [], (1, 2), [(2, 2, 3), (3, 2, 2)],
                    ((2, 2, 3), [3, 2, 2]), ([2, 2, 3], [3, 2, 2]),
                    Round(TWO, ((2, 2, 3), (3, 2, 2)))):
            self.check("why", wish, why)
        self.check(None, ("not every", 2), ((2,), (2,)))
        self.assertEqual(broken_fault(Stock((1, 2)), [("not every", 1)], Broken(0, ((True,), (1,)))), "why")

    def test_from(self):
        self.check(None, ("from", 4), 4)
        self.check(None, ("from", 1), 1)
        self.check(None, ("from", 2), 4)
        for why in (1, 5, 3, None, "4", (4,), 4.0):
            self.check("why", ("from", 4), why)
        self.check("why", ("from", 1), True)
        self.check("why", ("from", 2), 2)

    def test_notice(self):
        stock = Stock((1, 3, 5, 6), 2)
        found = notice_plan(stock, first_stand(2), 3)
        self.assertGreater(len(found.bounds), 10)
        for right in (found, NoPlan(found.bounds[::-1]),
                      # Greater bounds do as well.
                      NoPlan(tuple((phase, stand, 3 * bound + 1) for phase, stand, bound in found.bounds))):
            self.assertIs(broken_fault(stock, [("notice", 3)], Broken(0, right)), None)
        for why in (None, (), found.bounds, NoPlan(()), NoPlan(None), NoPlan(5), notice_plan(TWO, first_stand(2), 5),
                    NoPlan(found.bounds + found.bounds[:1]), NoPlan(tuple((phase, stand, 0) for phase, stand, _ in found.bounds))):
            self.assertEqual(broken_fault(stock, [("notice", 3)], Broken(0, why)), "why")
        # Behind 4 units nothing can finish: the first stand fails by itself, and nothing more need be told.
        self.check(None, ("notice", 4), NoPlan(()))
        self.check("why", ("notice", 4), found)
        self.check("why", ("notice", 4), ())

    def test_side(self):
        self.check(None, ("side", 1, 3), None)
        for why in (False, 0, (), "None", ((3,), (1,))):
            self.check("why", ("side", 1, 3), why)

    def test_strong(self):
        wish = ("strong", 5, PRICES, (5, 3))
        found = strongest_round(TWO, 5, PRICES)
        self.check(None, wish, found)
        self.check(None, wish, Strongest(Round(TWO, [[2, 3], [3, 2]]), (3, 2)))
        for why in (None, (3, 2), found.laid, Strongest(found.laid, (1, 1)), Strongest(rotated(found.laid, 1), (3, 2)), Strongest(None, (3, 2)),
                    Strongest(found.laid.courses, (3, 2)), Strongest(found.laid, None), Strongest(found.laid, [3, 2]), Strongest(found.laid, 1),
                    crack_rate(found.laid, PRICES)):
            self.check("why", wish, why)
        self.check(None, ("strong", 4, PRICES, (0, 1)), None)
        for why in (found, False, 0, ()):
            self.check("why", ("strong", 4, PRICES, (0, 1)), why)
        one = Stock((2,))
        self.assertEqual(broken_fault(one, [("strong", 2, Prices(1, 1), (2, 1))], Broken(0, Strongest(Round(one, ((2,), (2,))), (True, 1)))),
                         "why")
