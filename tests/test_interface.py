"""The interface: what stands in which file, with which arguments."""

import importlib
import inspect
import unittest

FUNCTIONS = {
    "ratios": [
        "is_whole(thing, low=None, high=None)", "is_ratio(thing)", "make_ratio(top, bottom=1)", "plus(one, other)",
        "minus(one, other)", "times(one, other)", "over(one, other)", "negative(one)", "sum_of(ratios)",
        "least_of(ratios)", "greatest_of(ratios)", "ratio_of(text)", "compare(one, other)", "ratio_text(ratio)"],
    "course": [
        "check_course(stock, course)", "mirrored_course(course)", "course_from(joints, length)",
        "nth_course(stock, length, number)", "joints_of(course)", "length_of(course)", "check_length(length, high=400)",
        "count_courses(stock, length)", "number_of(stock, course)", "courses_of(stock, length)",
        "clash_of(stock, one, other)", "are_apart(stock, one, other)"],
    "stocktext": ["stock_text(stock)", "course_text(course)", "stock_of(text)", "course_of(stock, text)"],
    "walls": ["all_clashes(wall)", "first_clash(wall)", "is_right(wall)", "check_right(wall)"],
    "walltext": ["wall_text(wall)", "wall_picture(wall)", "wall_of(stock, text)", "wall_seen(stock, text)"],
    "wallwork": [
        "piled(one, other)", "seam_clash(one, other)", "part_of(wall, first, last)", "wall_mirrored(wall)",
        "upturned(wall)", "with_course(wall, number, course)", "exchanged(wall, first, second)",
        "check_number(wall, number)"],
    "freecourses": ["free_courses(wall, number)", "count_free(wall, number)", "first_free(wall, number)"],
    "wallchanges": ["changes_between(one, other)", "fewest_changes(wall)"],
    "rounds": [
        "apart_lots(stock, length, size)", "round_fault(stock, courses)", "round_for(stock, length)",
        "all_rounds(stock, length)", "greatest_height(stock, length)", "course_at(laid, number)",
        "wall_from(laid, height)", "rotated(laid, by)", "ordered(laid, order)"],
    "heights": ["walls_counted(stock, length, height)", "most_on(wall)", "goes_on(wall)"],
    "bridges": [
        "bridge_fault(lower, upper, courses)", "least_bridges(lower, upper)", "bridges_over(lower, upper, number)",
        "bridge_of(lower, upper, number)", "shortest_bridge(lower, upper)", "nobridge_fault(lower, upper, tops)"],
    "repeating": ["until_repeated(first, step, *, most=4000)"],
    "calendars": [
        "calendar_from(answers, back)", "serves(calendar, length)", "first_served(calendar, length)",
        "count_served(calendar, length)", "joined_calendars(one, other)", "common_calendar(one, other)",
        "opposite_calendar(calendar)", "first_difference(one, other)"],
    "stands": [
        "first_stand(size)", "unit_steps(stock, couples)", "next_stands(stock, stand)", "can_finish(stock, stand)",
        "crowd_ring(stock, size, *, most=4000)", "crowd_after(stock, size, units, *, most=4000)"],
    "lengths": [
        "length_calendar(stock, *, size=None, most=4000)", "same_lengths(one, other)",
        "courses_for(stock, length, *, size=None)", "barred_fault(stock, size, length, barred)"],
    "means": ["least_mean(many, edges)", "net_fault(many, edges, rate)"],
    "ends": [
        "check_end(stock, end)", "end_of(stock, courses, units)", "stand_of_end(stock, end)", "next_ends(stock, end)",
        "goes_far(stock, end)", "end_calendar(stock, end)"],
    "notice": [
        "met_crowd(stock, end)", "finishing_crowd(stock, end, units)", "phase_of(moment, *, every=1, since=0)",
        "notice_does(stock, end, units, *, every=1, since=0)", "least_notices(stock, end, *, every=1, since=0)",
        "notice_calendar(stock, end, *, every=1, since=0)", "notice_steps(stock, end)",
        "least_wait(stock, end, *, every=1, since=0)"],
    "plans": [
        "notice_plan(stock, end, units, *, every=1, since=0)", "stand_at(plan, moment)",
        "plan_fault(stock, end, plan, units, *, every=1, since=0)",
        "noplan_fault(stock, end, noplan, units, *, every=1, since=0)", "played_rows(stock, end, plan, moment, units)"],
    "gaps": [
        "fill_gap(stock, left, right, length)", "gap_calendar(stock, left, right)",
        "gap_fault(stock, left, right, length, filling)"],
    "patterns": [
        "check_pattern(pattern)", "check_brick_ratio(ratio)", "check_share(share)", "check_counts(a_count, b_count)",
        "pattern_counts(pattern)", "pattern_joints(pattern)", "mirrored_pattern(pattern)", "place_at(joint, ratio)",
        "stock_ratio(stock)", "course_by(stock, pattern)", "pattern_by(stock, course)", "patterns_of(a_count, b_count)"],
    "stretches": [
        "is_in_stretches(stretches, ratio)", "either_stretches(one, other)", "both_stretches(one, other)",
        "are_within(one, other)"],
    "apartness": [
        "kept_stretches(joint, other, share)", "apart_stretches(one, other, share)", "apart_from(one, other, share)",
        "share_at(one, other, ratio)", "clash_at(one, other, share, ratio)"],
    "widest": [
        "widest_share(a_count, b_count, ratio)", "share_profile(a_count, b_count)",
        "couple_stretches(a_count, b_count, share)", "couple_for(a_count, b_count, share, ratio)",
        "couple_fault(a_count, b_count, share, ratio, couple)"],
    "bestcouple": ["last_whole(a_count, b_count)", "best_couple(a_count, b_count)", "best_fault(a_count, b_count, couple)"],
    "anylengths": [
        "length_stretches(a_count, b_count, share)", "courses_at(a_count, b_count, share, ratio)",
        "courses_fault(a_count, b_count, share, ratio, couple)"],
    "drifts": [
        "drift_for(a_count, b_count, low, high)", "reach_from(a_count, b_count, ratio)",
        "drift_marks(a_count, b_count, low, high)"],
    "driftjudge": [
        "drift_fault(a_count, b_count, low, high, drift)", "marks_fault(a_count, b_count, low, high, marks)"],
    "sides": [
        "standard_corners(stock)", "exchange_corners(corners)", "corner_clash(stock, corners)", "face_joints(breadth, face)",
        "side_clash(stock, breadth, one, other)", "side_round(stock, breadth, side)", "side_calendar(stock, breadth)"],
    "sidewalks": [
        "side_walk(stock, breadth, side, corners=None)", "walk_course(walk, number)",
        "walk_fault(stock, breadth, side, walk)"],
    "towers": [
        "tower_for(stock, breadth, one, other, corners=None)", "tower_height(stock, breadth, one, other, corners=None)",
        "tower_course(tower, number)", "tower_bricks(stock, tower, height)"],
    "wells": [
        "turn_well(course, by)", "well_courses(stock, girth)", "count_well_courses(stock, girth)",
        "well_clash(stock, one, other)", "well_round(stock, girth)", "well_calendar(stock)"],
    "spirals": [
        "spiral_clash(stock, girth, bricks)", "spiral_for(stock, girth)", "spiral_calendar(stock, bricks)",
        "spiral_joints(spiral, number)"],
    "tariffs": [
        "cut_tariff(stock)", "cheapest_lot(stock, tariff, length)", "tariff_net(stock, tariff)", "tariff_rate(stock, tariff)"],
    "cracks": [
        "crack_price(wall, prices, places)", "least_crack(wall, prices)", "crack_from(wall, prices, place)",
        "floor_numbers(wall, prices)"],
    "crackjudge": [
        "floor_bound(numbers)", "floor_fault(wall, prices, numbers)", "crack_fault(wall, prices, crack)",
        "least_fault(wall, prices, crack, numbers)"],
    "allcracks": ["cracks_within(wall, prices, most)", "count_cracks(wall, prices)"],
    "everyheight": [
        "round_crack(laid, prices, height)", "crack_at(calendar, height)", "crack_calendar(laid, prices, *, most=4000)",
        "stays_stronger(one, other)"],
    "crackrates": ["crack_rate(laid, prices)", "rate_fault(laid, prices, rate)"],
    "strongest": ["strongest_round(stock, length, prices)"],
    "loads": [
        "check_loads(wall, loads)", "check_weight(weight)", "load_rows(wall, loads, weight)",
        "feet_of(wall, loads, weight)", "even_loads(wall, pressure)"],
    "shares": [
        "check_brick(wall, brick)", "shares_of(wall, brick)", "share_rows(wall)", "spread_of(wall, number)",
        "heaviest_load(wall, brick, total, weight)", "lightest_load(wall, brick, total, weight)"],
    "readers": [
        "reader_of(wall, *, most=30)", "reader_fault(wall, reader)", "twins_fault(wall, twins)",
        "read_loads(wall, reader, feet, weight)"],
    "takings": [
        "check_bundle(wall, bundle)", "does_rest(wall, brick, bundle)", "is_steady(wall, bundle)", "left_after(wall, taken)",
        "take_order(wall, bundle)", "order_fault(wall, order)"],
    "props": [
        "least_props(wall, brick, *, most=14)", "least_takings(wall, brick, *, most=14)", "fewest_takings(wall, *, most=14)"],
    "ruins": ["ruin_of(wall)", "fillings(ruin)", "count_fillings(ruin)"],
    "sureruins": ["sure_rows(ruin)", "two_fillings(ruin, course, place)"],
    "misfits": ["least_misfits(ruin)"],
    "changes": ["stock_after(stock, changes)"],
    "wishes": ["broken_wish(stock, wishes)", "broken_fault(stock, wishes, broken)"],
    "mends": [
        "find_mends(stock, pool, wishes)", "mends_fault(stock, pool, wishes, mends)", "find_spoilers(stock, pool, wishes)"],
}
GENERATORS = {"courses_of", "all_clashes", "free_courses", "apart_lots", "all_rounds", "patterns_of", "well_courses",
              "cracks_within", "fillings"}
CLASSES = {
    "stock": {"Stock(bricks, lap=1, reach=1)": [
        "with_brick(self, brick)", "without_brick(self, brick)", "with_lap(self, lap)", "with_reach(self, reach)",
        "finer(self, size)", "__eq__(self, other)"]},
    "walls": {
        "Wall(stock, courses)": ["__len__(self)", "__eq__(self, other)"],
        "Clash(lower, upper, joint, other)": ["__eq__(self, other)"]},
    "wallchanges": {"Changed(number, wall)": []},
    "rounds": {
        "Round(stock, courses)": ["__len__(self)", "__iter__(self)", "__eq__(self, other)"],
        "Highest(courses)": ["__len__(self)", "__eq__(self, other)"]},
    "bridges": {"NoBridge(tops)": ["__eq__(self, other)"]},
    "repeating": {"Repeating(things, back)": ["at(self, number)", "__eq__(self, other)"]},
    "calendars": {"Calendar(before, lengths, period, rests)": ["__contains__(self, number)", "__eq__(self, other)"]},
    "lengths": {"Barred(size, crowds)": ["__eq__(self, other)"]},
    "means": {"Rate(ratio, ring, numbers)": ["__eq__(self, other)"]},
    "plans": {"Plan(way, ring)": ["__eq__(self, other)"], "NoPlan(bounds)": ["__eq__(self, other)"]},
    "stretches": {"Stretch(low, high)": ["__contains__(self, ratio)", "__eq__(self, other)"]},
    "widest": {"Segment(low, high, start, rise)": []},
    "drifts": {"Leg(low, high, one, other)": [], "Drift(legs)": []},
    "sidewalks": {"Walk(corners, courses)": [], "Tallest(corners, courses)": []},
    "towers": {"Tower(breadth, one, other, first, second)": [], "NoTower(number, tallest)": []},
    "wells": {"WellCourse(turning, bricks)": ["__eq__(self, other)"]},
    "spirals": {"Spiral(girth, bricks)": [], "Longest(girth, bricks)": []},
    "tariffs": {"Cheapest(price, courses)": ["__eq__(self, other)"], "TariffNet(stands, edges)": ["__eq__(self, other)"]},
    "cracks": {"Prices(brick, bed)": ["__eq__(self, other)"], "Crack(price, places)": ["__eq__(self, other)"]},
    "everyheight": {"CrackCalendar(firsts, period, growth)": ["__eq__(self, other)"]},
    "crackrates": {"CrackRate(ratio, ring, numbers)": []},
    "strongest": {"Strongest(laid, ratio)": []},
    "shares": {"Extreme(load, number)": []},
    "readers": {"Reader(rows)": [], "Twins(one, other)": []},
    "takings": {"Falls(brick)": []},
    "props": {"Weakest(bundle, fallen)": []},
    "ruins": {"Ruin(stock, length, rows)": [
        "with_sign(self, course, place, sign)", "mirrored(self)", "upturned(self)", "__eq__(self, other)", "__len__(self)"]},
    "wishes": {"Broken(index, why)": []},
    "mends": {"Mends(least, losses)": [], "Spoiler(choice, added, reason)": [], "NoStock()": ["__eq__(self, other)"]},
    "bench": {"Bench(stock)": [
        "put(self, change)", "take_back(self, number)", "broken(self, wishes)", "trial(self)", "tried(self, call)",
        "__len__(self)", "__iter__(self)"]},
}
PROPERTIES = (("stock", "Stock", "longest"), ("stretches", "Stretch", "low_shut"), ("wells", "WellCourse", "joints"),
              ("ruins", "Ruin", "seen"), ("mends", "Mends", "needed"))


def module(name):
    return importlib.import_module(f"jointsapart.{name}")


def signed(function):
    return f"{function.__name__}{inspect.signature(function)}"


class Interface(unittest.TestCase):
    def test_functions(self):
        for file, rows in FUNCTIONS.items():
            for row in rows:
                with self.subTest(row):
                    function = getattr(module(file), row.split("(")[0])
                    self.assertEqual(function.__module__, f"jointsapart.{file}")
                    self.assertEqual(signed(function), row)
                    self.assertEqual(inspect.isgeneratorfunction(function), function.__name__ in GENERATORS)

    def test_classes(self):
        for file, classes in CLASSES.items():
            for row, methods in classes.items():
                with self.subTest(row):
                    made = getattr(module(file), row.split("(")[0])
                    self.assertEqual(made.__module__, f"jointsapart.{file}")
                    self.assertEqual(signed(made), row)
                    for method in methods:
                        self.assertEqual(signed(vars(made)[method.split("(")[0]]), method)

    def test_properties(self):
        for file, made, name in PROPERTIES:
            self.assertIsInstance(vars(getattr(module(file), made))[name], property)

    def test_values(self):
        self.assertEqual((module("ratios").ZERO, module("ratios").ONE), ((0, 1), (1, 1)))
