import unittest
from random import Random

from tests.helpers import (
    all_demands, complete_log, reasons_by_words, shares_of_rows, sheaf_of, small_record_sheaves,
    some_sheaves,
)
from wornsheaf.demands import can_meet, trouble
from wornsheaf.ends import possible_ends
from wornsheaf.lookers import look_at_plan, look_at_reason
from wornsheaf.sheaf import Sheaf
from wornsheaf.stages import plan

STAIRS = sheaf_of(0, 1, 2)


class TestLookAtPlan(unittest.TestCase):
    def look(self, wanted, sheaf, end, demands, log, breadth=1):
        self.assertIs(look_at_plan(sheaf, end, demands, log, breadth=breadth), wanted)

    def test_plans(self):
        for sheaf in list(small_record_sheaves(3, 3)) + list(some_sheaves(111, 8, span=6)):
            for breadth in (1, 3):
                for end in possible_ends(sheaf, breadth=breadth):
                    for demands in ({}, {"a": 1}, {"b": 2, "z": 0}, {"a": 1, "b": 1}):
                        if can_meet(sheaf, end, demands, breadth=breadth):
                            log = plan(sheaf, end, demands, breadth=breadth)
                            self.look(True, sheaf, end, demands, log, breadth)
                            self.look(not log, sheaf, end, demands, log[:-1], breadth)
                            self.look(False, sheaf, end + 1, demands, log, breadth)
                            self.look(False, sheaf, end - 1, demands, log, breadth)

    def test_any_complete_log(self):
        chance = Random(112)
        for sheaf in some_sheaves(113, 40, most_sheets=9):
            log, rows = complete_log(sheaf, 2, chance)
            shares = shares_of_rows(rows)
            self.look(True, sheaf, rows[0][0], shares, log, 2)
            self.look(True, sheaf, rows[0][0], {}, log, 2)
            for record in "abcdez":
                more = {**shares, record: shares.get(record, 0) + 1}
                self.look(False, sheaf, rows[0][0], more, log, 2)

    def test_stops_early(self):
        log = [(1, (0,)), (2, (1,)), (2, (0,)), (1, (0,))]
        self.look(True, STAIRS, 0, {"c": 2}, log)
        for stop in range(4):
            self.look(False, STAIRS, 0, {"c": 2}, log[:stop])
            self.look(False, STAIRS, 0, {}, log[:stop])
        self.look(False, STAIRS, 0, {}, [])
        self.look(False, STAIRS, 2, {}, [])
        self.look(False, STAIRS, 1, {}, [])
        self.look(True, sheaf_of(4, 4), 4, {"a": 1, "b": 1}, [])

    def test_not_allowed(self):
        self.look(True, STAIRS, 1, {}, [(2, (0,))])
        for log in (
            [(2, (0,)), (2, (0,))], [(0, (2,)), (2, (0,))], [(2, ())], [(2, (0, 1))],
            [(2, (3,))], [(3, (0,))], [(2, (-3,))], [(-1, (0,))], [(2, (0, 0))],
        ):
            self.look(False, STAIRS, 1, {}, log)
        self.look(True, sheaf_of(0, 0, 1), 0, {}, [(2, (0,))])
        self.look(True, sheaf_of(0, 0, 1), 0, {"c": 3}, [(2, (0, 1))], 2)
        self.look(False, sheaf_of(0, 0, 1), 0, {"c": 3}, [(2, (1, 0))], 2)

    def test_breadth_left_out_is_1(self):
        self.assertIs(look_at_plan(sheaf_of(0, 0, 1), 0, {}, [(2, (0, 1))]), False)
        self.assertIs(look_at_plan(sheaf_of(0, 0, 1), 0, {}, [(2, (1,))]), True)

    def test_ends_elsewhere(self):
        log = [(2, (0,))]
        for end in (-1000, -1, 0, 2, 3):
            self.look(False, STAIRS, end, {}, log)

    def test_a_record_with_too_few_sheets(self):
        log = [(2, (0,))]
        self.look(True, STAIRS, 1, {"c": 2, "b": 1}, log)
        self.look(True, STAIRS, 1, {"c": 1, "a": 0, "z": 0}, log)
        for demands in ({"c": 3}, {"b": 2}, {"a": 1}, {"z": 1}, {"c": 2, "b": 2}):
            self.look(False, STAIRS, 1, demands, log)


class TestLookAtReason(unittest.TestCase):
    def look(self, wanted, sheaf, end, demands, reason, breadth=1):
        self.assertIs(look_at_reason(sheaf, end, demands, reason, breadth=breadth), wanted)

    def test_example(self):
        sheaf = Sheaf([(0, "a"), (1, "b"), (2, "c")])
        self.assertIs(look_at_reason(sheaf, 0, {"b": 1}, ("height", 1, 1)), True)

    def test_total(self):
        self.look(True, STAIRS, 0, {"a": 1, "b": 3}, ("total", 4))
        self.look(False, STAIRS, 0, {"a": 1, "b": 3}, ("total", 3))
        self.look(False, STAIRS, 0, {"a": 1, "b": 3}, ("total", 5))
        self.look(False, STAIRS, 0, {"a": 1, "b": 2}, ("total", 3))
        self.look(False, STAIRS, 0, {"a": 1, "b": 2}, ("total", 4))
        self.look(True, STAIRS, 99, {"x": 4}, ("total", 4))

    def test_reach(self):
        self.look(True, STAIRS, 2, {}, ("reach", 1))
        self.look(False, STAIRS, 2, {}, ("reach", 0))
        self.look(False, STAIRS, 2, {}, ("reach", 2))
        self.look(False, STAIRS, 1, {}, ("reach", 3))
        self.look(False, STAIRS, 1, {}, ("reach", 2))
        wide = sheaf_of(0, 0, 0, 2)
        self.look(True, wide, 1, {}, ("reach", 3), 2)
        self.look(False, wide, 1, {}, ("reach", 2), 2)
        self.look(True, wide, 1, {}, ("reach", 2))
        self.look(False, wide, 1, {}, ("reach", 4), 3)

    def test_record(self):
        self.look(True, STAIRS, 0, {"b": 3, "a": 0}, ("record", "b", 2))
        self.look(False, STAIRS, 0, {"b": 3}, ("record", "b", 1))
        self.look(False, STAIRS, 0, {"b": 3}, ("record", "b", 3))
        self.look(False, STAIRS, 0, {"b": 2}, ("record", "b", 2))
        self.look(False, STAIRS, 0, {"b": 3}, ("record", "a", 1))
        self.look(False, STAIRS, 0, {}, ("record", "b", 2))
        self.look(False, STAIRS, 0, {}, ("record", "z", 0))
        self.look(True, STAIRS, 0, {"z": 1}, ("record", "z", 0))
        self.look(False, STAIRS, 0, {"z": 1}, ("record", "z", -1))
        self.look(False, STAIRS, 0, {"b": 3}, ("record", "b", 3), 2)
        self.look(True, STAIRS, 0, {"b": 4}, ("record", "b", 3), 2)

    def test_height(self):
        sheaf = sheaf_of(0, 0, 1, 4)
        # With one sheet of 0 set aside 1, 2, 2 and 2 spare sheets are no
        # sharper than 0, 1, 2 and 3.
        demands = {"a": 1}
        self.look(True, sheaf, 0, demands, ("height", 2, 2))
        self.look(True, sheaf, 0, demands, ("height", 3, 2))
        self.look(False, sheaf, 0, demands, ("height", 2, 1))
        self.look(False, sheaf, 0, demands, ("height", 2, 3))
        self.look(False, sheaf, 0, demands, ("height", 1, 2))
        self.look(False, sheaf, 0, demands, ("height", 0, 1))
        self.look(True, sheaf, 0, {"a": 1, "b": 1}, ("height", 0, 0))
        self.look(False, sheaf, 0, {"a": 1, "b": 1}, ("height", 0, 1))

    def test_a_height_below_the_end_or_not_below_the_top(self):
        sheaf = sheaf_of(0, 0, 1, 4)
        self.look(True, sheaf, -5, {}, ("height", -5, 0))
        self.look(False, sheaf, -5, {}, ("height", -6, 0))
        self.look(False, sheaf, 0, {}, ("height", -1, 0))
        aside = {"a": 1, "b": 1, "c": 1, "d": 1}
        self.look(True, sheaf, 0, aside, ("height", 3, 0))
        self.look(False, sheaf, 0, aside, ("height", 4, 0))
        self.look(False, sheaf, 0, aside, ("height", 900, 0))

    def test_breadth(self):
        # For breadth 2 the first sheet alone has the cap 9, for breadth 1 the cap 4.
        sheaf = sheaf_of(2, 0, 0, 0, 0)
        reason = ("reach", 2)
        self.assertIs(look_at_reason(sheaf_of(0, 1, 0), 1, {}, ("reach", 1)), True)
        self.assertIs(look_at_reason(sheaf, 1, {}, reason), True)
        self.look(False, sheaf, 1, {}, reason, 2)
        self.assertIs(look_at_reason(sheaf, 0, {"a": 5}, ("record", "a", 4)), True)
        self.look(False, sheaf, 0, {"a": 5}, ("record", "a", 4), 2)
        pair = Sheaf([(2, "a"), (0, "b"), (1, "a")])
        # For breadth 1 the demand of 5 takes both sheets of its record.
        self.assertIs(look_at_reason(pair, 0, {"a": 5}, ("height", 1, 1)), True)
        self.look(True, pair, 0, {"a": 5}, ("height", 1, 1), 1)
        self.look(False, pair, 0, {"a": 5}, ("height", 1, 1), 2)
        self.look(False, pair, 0, {"a": 5}, ("height", 1, 2), 2)

    def test_reasons_that_hold_but_are_not_the_first(self):
        demands = {"a": 2, "b": 9}
        self.assertEqual(trouble(STAIRS, -1, demands), ("total", 11))
        self.look(True, STAIRS, -1, demands, ("record", "b", 4))
        self.look(True, STAIRS, -1, demands, ("height", -1, 0))
        self.look(False, STAIRS, -1, demands, ("record", "a", 2))
        self.look(True, STAIRS, 2, demands, ("reach", 1))
        self.look(True, STAIRS, 2, demands, ("record", "b", 0))
        self.look(True, STAIRS, 0, {"b": 1, "a": 1}, ("height", 1, 0))

    def test_against_the_words(self):
        held = {}
        for sheaf in small_record_sheaves(3, 3):
            for demands in list(all_demands("ab", 2)) + [{"z": 1}, {"a": 3, "b": 1}]:
                for end in range(-1, 4):
                    holding = reasons_by_words(sheaf, end, demands, 1)
                    self.check_all(sheaf, end, demands, holding)
                    for reason in holding:
                        held[reason[0]] = held.get(reason[0], 0) + 1
        self.assertEqual(sorted(held), ["height", "reach", "record", "total"])

    def check_all(self, sheaf, end, demands, holding):
        for reason in holding:
            self.look(True, sheaf, end, demands, reason)
            for step in (-1, 1):
                self.look(False, sheaf, end, demands, (*reason[:-1], reason[-1] + step))
        forms = [("total",), ("reach",), ("record", "a"), ("record", "z"), ("height", end)]
        for form in forms:
            for amount in (0, 1, 2, 3, 4):
                reason = (*form, amount)
                self.look(reason in holding, sheaf, end, demands, reason)


if __name__ == "__main__":
    unittest.main()
