import unittest
from itertools import combinations
from random import Random

from tests.helpers import (
    BREADTHS, all_demands, aside_by_words, meets, reasons_by_words, shares_at, sheaf_of,
    small_record_sheaves, small_sheaves, some_sheaves,
)
from wornsheaf.demands import can_meet, footing, met_ends, set_aside, trouble
from wornsheaf.ends import low_end, possible_ends
from wornsheaf.errors import InvalidDemands
from wornsheaf.keeping import greatest_share
from wornsheaf.lookers import look_at_plan, look_at_reason
from wornsheaf.sheaf import Sheaf
from wornsheaf.stages import full_shares, plan

STAIRS = sheaf_of(0, 1, 2)

# Every function that takes demands, asked so that something else is wrong, too.
TAKING = {
    "set_aside": lambda demands: set_aside(STAIRS, 0, demands),
    "trouble": lambda demands: trouble(STAIRS, 99, demands, breadth=2),
    "can_meet": lambda demands: can_meet(STAIRS, 99, demands),
    "met_ends": lambda demands: met_ends(STAIRS, demands, breadth=3),
    "met_ends level": lambda demands: met_ends(sheaf_of(4), demands),
    "plan": lambda demands: plan(STAIRS, 99, demands),
    "plan possible": lambda demands: plan(STAIRS, 1, demands),
    "full_shares": lambda demands: full_shares(STAIRS, -99, demands),
    "look_at_plan": lambda demands: look_at_plan(STAIRS, 1, demands, [(2, (0,))]),
    "look_at_plan, not allowed": lambda demands: look_at_plan(STAIRS, 1, demands, [(9, ())]),
    "look_at_reason": lambda demands: look_at_reason(STAIRS, 0, demands, ("total", 9)),
    "look_at_reason, height": lambda demands: look_at_reason(STAIRS, 0, demands, ("height", 9, 9)),
    "greatest_share": lambda demands: greatest_share(STAIRS, 99, demands, "nobody"),
}


class TestInvalidDemands(unittest.TestCase):
    def refused(self, demands, record):
        for name, ask in TAKING.items():
            with self.subTest(name, demands=demands), self.assertRaises(InvalidDemands) as caught:
                ask(demands)
            self.assertEqual(caught.exception.record, record)

    def test_one_negative_demand(self):
        self.refused({"a": -1}, "a")
        self.refused({"b": 1, "c": -1000, "a": 0}, "c")
        self.refused({"nobody": -1, "a": 5}, "nobody")

    def test_the_first_of_several_in_ascending_order(self):
        self.refused({"c": -1, "b": -2, "a": 3}, "b")
        self.refused({"b": -1, "a1": -1, "a": 1, "a0": -1}, "a0")
        self.refused({"z": -1, "9": -1}, "9")
        self.refused({"aa": -1, "b": -1}, "aa")

    def test_ahead_of_too_many(self):
        self.refused({"a": 1000, "c": -1}, "c")
        self.refused({"a": 1000, "c": -999}, "c")

    def test_demands_of_0_and_of_unborne_records_are_right(self):
        for demands in ({}, {"a": 0}, {"nobody": 0}, {"a": 0, "b": 0, "c": 0, "x": 0}):
            self.assertIs(can_meet(STAIRS, 1, demands), True)
            self.assertIsNone(trouble(STAIRS, 0, demands))
            self.assertEqual(set_aside(STAIRS, 0, demands), [])
            self.assertEqual(met_ends(STAIRS, demands), [0, 1])


class TestSetAside(unittest.TestCase):
    def test_equal_sharpnesses_by_their_indexes(self):
        sheaf = Sheaf([(1, "a"), (2, "b"), (2, "a"), (1, "a"), (2, "a"), (0, "a")])
        # At the end 1 the caps are 2, 2, 1 and 1.
        for demand, wanted in [
            (1, [2]), (2, [2]), (3, [2, 4]), (4, [2, 4]), (5, [0, 2, 4]), (6, [0, 2, 3, 4]),
            (7, [0, 2, 3, 4]),
        ]:
            self.assertEqual(set_aside(sheaf, 1, {"a": demand}), wanted)
        for demand, wanted in [(1, [2]), (2, [2, 4]), (3, [2, 4])]:
            self.assertEqual(set_aside(sheaf, 2, {"a": demand}), wanted)

    def test_caps_that_add_up_exactly(self):
        sheaf = Sheaf([(2, "a"), (1, "a"), (0, "a"), (0, "b")])
        # The caps are 4, 2 and 1 for breadth 1, and 9, 3 and 1 for breadth 2.
        for demand, wanted in [(3, 1), (4, 1), (5, 2), (6, 2), (7, 3), (8, 3), (1000, 3)]:
            self.assertEqual(set_aside(sheaf, 0, {"a": demand}), list(range(wanted)))
        for demand, wanted in [(9, 1), (10, 2), (12, 2), (13, 3), (14, 3)]:
            self.assertEqual(set_aside(sheaf, 0, {"a": demand}, breadth=2), list(range(wanted)))

    def test_sheets_fainter_than_the_end(self):
        sheaf = Sheaf([(2, "a"), (1, "a"), (0, "a"), (0, "b")])
        self.assertEqual(set_aside(sheaf, 1, {"a": 900, "b": 1}), [0, 1])
        self.assertEqual(set_aside(sheaf, 2, {"a": 900, "b": 1}), [0])
        self.assertEqual(set_aside(sheaf, 3, {"a": 900, "b": 1}), [])
        self.assertEqual(set_aside(sheaf, -1000, {"a": 1000}), [0])

    def test_several_records_and_order(self):
        sheaf = Sheaf([(0, "c"), (5, "b"), (5, "a"), (5, "c")])
        self.assertEqual(set_aside(sheaf, 5, {"c": 1, "a": 1, "b": 1}), [1, 2, 3])
        self.assertEqual(set_aside(sheaf, 0, {"c": 33, "nobody": 3, "b": 0}), [0, 3])

    def test_against_the_words(self):
        chance = Random(91)
        for sheaf in some_sheaves(92, 60, span=5):
            for end in range(sheaf.bottom - 1, sheaf.top + 2):
                for breadth in (1, 2, 6):
                    demands = {record: chance.choice((0, 1, 2, 4, 7, 30)) for record in "edxab"}
                    wanted = aside_by_words(sheaf, end, demands, breadth)
                    self.assertEqual(set_aside(sheaf, end, demands, breadth=breadth), wanted)


def footing_by_words(sheaf, aside):
    rows = sheaf.rows()
    spare = [rows[k][0] for k in range(len(rows)) if k not in aside]
    return max(a - sum(1 for s in spare if s < a) for a in spare + [sheaf.top])


class TestFooting(unittest.TestCase):
    def test_no_sheet_set_aside(self):
        for sheaf in list(small_sheaves(4, 4)) + list(some_sheaves(93, 30)):
            self.assertEqual(footing(sheaf, []), low_end(sheaf))

    def test_some_sheets(self):
        sheaf = sheaf_of(0, 1, 2, 3)
        for aside, wanted in [([0], 1), ([1], 1), ([2], 1), ([0, 1], 2), ([1, 2], 2), ([2, 1], 2)]:
            self.assertEqual(footing(sheaf, aside), wanted)

    def test_the_top_set_aside(self):
        sheaf = sheaf_of(0, 0, 5)
        self.assertEqual(footing(sheaf, [2]), 3)
        self.assertEqual(footing(sheaf, [2, 0]), 4)
        self.assertEqual(footing(sheaf, [0, 1]), 5)

    def test_all_sheets_set_aside(self):
        self.assertEqual(footing(sheaf_of(0, 0, 5), [0, 1, 2]), 5)
        self.assertEqual(footing(sheaf_of(-7), [0]), -7)

    def test_all_sets_of_small_sheaves(self):
        for sheaf in small_sheaves(4, 4):
            for many in range(len(sheaf) + 1):
                for aside in combinations(range(len(sheaf)), many):
                    found = footing(sheaf, list(reversed(aside)))
                    self.assertEqual(found, footing_by_words(sheaf, aside))
                    self.assertGreaterEqual(found, low_end(sheaf))


class TestTrouble(unittest.TestCase):
    def test_examples(self):
        self.assertEqual(trouble(STAIRS, 1, {"a": 1}), ("record", "a", 0))
        self.assertEqual(trouble(STAIRS, 0, {"b": 1}), ("height", 1, 1))
        self.assertIsNone(trouble(STAIRS, 0, {"c": 3}))
        self.assertEqual(met_ends(STAIRS, {"b": 1}), [1])

    def test_total(self):
        self.assertEqual(trouble(STAIRS, 0, {"a": 2, "c": 2, "b": 0}), ("total", 4))
        self.assertEqual(trouble(STAIRS, 1, {"x": 1000, "y": 1000}), ("total", 2000))
        self.assertNotEqual(trouble(STAIRS, 0, {"a": 1, "c": 2}), ("total", 3))

    def test_reach(self):
        self.assertEqual(trouble(STAIRS, 2, {}), ("reach", 1))
        self.assertEqual(trouble(STAIRS, 3, {}), ("reach", 0))
        self.assertEqual(trouble(sheaf_of(0, 0, 0, 0, 1), 1, {}, breadth=6), ("reach", 1))
        self.assertIsNone(trouble(sheaf_of(0, 0, 1), 0, {}))
        self.assertIsNone(trouble(sheaf_of(0, 0, 0, 0, 2), 1, {}, breadth=4))
        self.assertEqual(trouble(sheaf_of(0, 0, 0, 0, 2), 1, {}, breadth=3), ("reach", 4))

    def test_record(self):
        sheaf = Sheaf([(0, "a"), (0, "b"), (0, "b"), (2, "c"), (1, "a"), (-1, "d")])
        self.assertEqual(trouble(sheaf, 0, {"a": 4}), ("record", "a", 3))
        self.assertEqual(trouble(sheaf, 0, {"b": 3}), ("record", "b", 2))
        self.assertEqual(trouble(sheaf, 0, {"d": 1, "c": 4}), ("record", "d", 0))
        self.assertEqual(trouble(sheaf, 0, {"e": 1}), ("record", "e", 0))
        self.assertEqual(trouble(sheaf, 0, {"a": 5}, breadth=2), ("record", "a", 4))
        self.assertIsNone(trouble(sheaf, 0, {"a": 4}, breadth=2))

    def test_height(self):
        self.assertEqual(trouble(STAIRS, -1, {}), ("height", -1, 0))
        self.assertEqual(trouble(sheaf_of(0, 0, 2, 2), 0, {"a": 1}), ("height", 1, 1))
        self.assertEqual(trouble(sheaf_of(0, 0, 2, 2), 0, {"a": 1, "b": 1}), ("height", 0, 0))
        self.assertEqual(trouble(sheaf_of(4), 3, {}), ("height", 3, 0))

    def test_the_order_of_the_forms(self):
        sheaf = Sheaf([(0, "a"), (0, "b"), (0, "c"), (0, "d"), (1, "e")])
        self.assertEqual(trouble(sheaf, 1, {"a": 6}), ("total", 6))
        self.assertEqual(trouble(sheaf, 1, {"a": 5}), ("reach", 1))
        self.assertEqual(trouble(sheaf, 0, {"b": 2, "a": 2}), ("record", "a", 1))
        self.assertEqual(trouble(sheaf, -1, {"a": 3, "b": 1}), ("record", "a", 2))
        self.assertEqual(trouble(sheaf, -1, {"a": 1, "b": 1}), ("height", -1, 0))

    def test_the_first_record_and_the_least_height(self):
        sheaf = sheaf_of(0, 1, 2, 3)
        self.assertEqual(trouble(sheaf, 1, {"b": 2, "z": 1, "a": 1}), ("record", "a", 0))
        self.assertEqual(trouble(sheaf, 1, {"d": 1, "z": 1, "b": 2}), ("record", "b", 1))
        self.assertEqual(trouble(sheaf, 0, {"b": 1, "c": 1}), ("height", 1, 1))
        self.assertEqual(trouble(sheaf, -2, {}), ("height", -2, 0))

    def test_against_the_words(self):
        forms = []
        chance = Random(94)
        for sheaf in some_sheaves(95, 150, most_sheets=12, span=6):
            for end in range(sheaf.bottom - 2, sheaf.top + 3):
                for breadth in (1, 3):
                    demands = {record: chance.choice((0, 0, 1, 2, 3)) for record in "dbxa"}
                    reasons = reasons_by_words(sheaf, end, demands, breadth)
                    found = trouble(sheaf, end, demands, breadth=breadth)
                    self.assertEqual(found, (reasons + [None])[0])
                    self.assertIs(can_meet(sheaf, end, demands, breadth=breadth), not reasons)
                    forms.append(tuple(sorted({reason[0] for reason in reasons})))
        # The choice of cases is wide enough if all of these come together.
        for wanted in [(), ("height",), ("record",), ("height", "record"), ("reach", "record"),
                       ("height", "record", "total"), ("reach", "record", "total")]:
            self.assertTrue(wanted in forms, wanted)

    def test_a_height_is_against_it_exactly_if_the_footing_is_above_the_end(self):
        for sheaf in small_record_sheaves(3, 3):
            for demands in all_demands("ab", 2):
                for end in range(-2, 5):
                    aside = set_aside(sheaf, end, demands)
                    reasons = reasons_by_words(sheaf, end, demands, 1)
                    heights = [reason for reason in reasons if reason[0] == "height"]
                    self.assertEqual(footing(sheaf, aside) > end, heights != [])

    def test_breadth_left_out_is_1(self):
        wide = sheaf_of(0, 0, 1)
        self.assertEqual(trouble(wide, 0, {"c": 3}), ("record", "c", 2))
        self.assertIsNone(trouble(wide, 0, {"c": 3}, breadth=2))
        self.assertIs(can_meet(wide, 0, {"c": 3}), False)
        self.assertIs(can_meet(wide, 0, {"c": 3}, breadth=2), True)
        self.assertEqual(met_ends(wide, {"c": 3}), [])
        self.assertEqual(met_ends(wide, {"c": 3}, breadth=2), [0])
        pair = Sheaf([(2, "a"), (2, "a"), (0, "b")])
        self.assertEqual(set_aside(pair, 0, {"a": 5}), [0, 1])
        self.assertEqual(set_aside(pair, 0, {"a": 5}, breadth=2), [0])

    def test_far_ends(self):
        sheaf = sheaf_of(*range(-1000, 1000, 50))
        for breadth in BREADTHS:
            self.assertEqual(trouble(sheaf, -1000, {}, breadth=breadth), ("height", -999, 1))
            self.assertEqual(trouble(sheaf, 1000, {}, breadth=breadth), ("reach", 0))


class TestAgainstSearch(unittest.TestCase):
    def check(self, sheaf, demands_told, breadth):
        ends = range(sheaf.bottom - 1, sheaf.top + 2)
        shares = {end: shares_at(sheaf, end, breadth) for end in ends}
        for demands in demands_told:
            met = [end for end in ends if any(meets(told, demands) for told in shares[end])]
            for end in ends:
                self.assertIs(can_meet(sheaf, end, demands, breadth=breadth), end in met)
            self.assertEqual(met_ends(sheaf, demands, breadth=breadth), met)
            if met:
                self.assertEqual(met, list(range(met[0], met[-1] + 1)))

    def test_different_records(self):
        for breadth in (1, 2, 3):
            for sheaf in small_sheaves(4, 3):
                self.check(sheaf, list(all_demands("abcd"[:len(sheaf)], 2)), breadth)

    def test_repeated_records(self):
        demands_told = list(all_demands("abz", 1)) + list(all_demands("ab", 4))
        for breadth, most_sharpness in [(1, 3), (2, 2), (3, 2)]:
            for sheaf in small_record_sheaves(4, most_sharpness):
                self.check(sheaf, demands_told, breadth)

    def test_five_sheets(self):
        for sheaf in small_sheaves(5, 3):
            if len(sheaf) == 5:
                self.check(sheaf, [{}, {"a": 1}, {"b": 2, "e": 1}, {"c": 1, "d": 1}], 1)

    def test_ends_for_no_demands(self):
        for sheaf in list(small_sheaves(4, 4)) + list(some_sheaves(96, 20)):
            for breadth in BREADTHS:
                self.assertEqual(
                    met_ends(sheaf, {}, breadth=breadth), possible_ends(sheaf, breadth=breadth)
                )


if __name__ == "__main__":
    unittest.main()
