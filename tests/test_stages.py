import unittest
from random import Random

from tests.helpers import (
    BREADTHS, all_demands, complete_log, meets, reasons_by_words, shares_at, shares_of_rows,
    sheaf_of, small_record_sheaves, small_sheaves, some_sheaves,
)
from wornsheaf.deeds import replay
from wornsheaf.demands import can_meet
from wornsheaf.ends import possible_ends
from wornsheaf.errors import Impossible
from wornsheaf.sheaf import Sheaf
from wornsheaf.stages import full_shares, plan

STAIRS = sheaf_of(0, 1, 2)


class PlanTest(unittest.TestCase):
    def check_plan(self, sheaf, end, demands, breadth):
        """Replay a plan and count its deeds and what it leaves."""
        log = plan(sheaf, end, demands, breadth=breadth)
        self.assertIsInstance(log, list)
        self.assertLessEqual(len(log), len(sheaf) ** 2)
        # Replaying refuses deeds with more targets than the breadth.
        left = replay(sheaf, log, breadth=breadth)
        self.assertEqual({sharpness for sharpness, _ in left.rows()}, {end})
        self.assertTrue(meets(shares_of_rows(left.rows()), demands), (sheaf.rows(), end, demands))
        return left

    def check_shares(self, sheaf, end, demands, breadth):
        """Add up full shares and meet them by a plan."""
        shares = full_shares(sheaf, end, demands, breadth=breadth)
        self.assertIsInstance(shares, dict)
        self.assertEqual(sum(shares.values()), len(sheaf))
        self.assertTrue(all(number >= 1 for number in shares.values()))
        self.assertTrue(meets(shares, demands))
        self.assertTrue(can_meet(sheaf, end, shares, breadth=breadth))
        left = self.check_plan(sheaf, end, shares, breadth)
        self.assertEqual(shares_of_rows(left.rows()), shares)

    def check_refused(self, sheaf, end, demands, breadth):
        wanted = reasons_by_words(sheaf, end, demands, breadth)[0]
        for ask in (plan, full_shares):
            with self.assertRaises(Impossible) as caught:
                ask(sheaf, end, demands, breadth=breadth)
            self.assertEqual(caught.exception.reason, wanted)


class TestPlans(PlanTest):
    def test_example(self):
        self.assertEqual(plan(Sheaf([(0, "a"), (1, "b"), (2, "c")]), 1, {}), [(2, (0,))])

    def test_breadth_left_out_is_1(self):
        sheaf = sheaf_of(0, 0, 0, 2)
        with self.assertRaises(Impossible) as caught:
            plan(sheaf, 1, {})
        self.assertEqual(caught.exception.reason, ("reach", 2))
        with self.assertRaises(Impossible) as caught:
            full_shares(sheaf, 1, {})
        self.assertEqual(caught.exception.reason, ("reach", 2))
        self.assertEqual(plan(sheaf, 1, {}, breadth=3), [(3, (0, 1, 2))])
        self.assertEqual(full_shares(sheaf, 1, {}, breadth=3), {"d": 4})

    def test_level_sheaves(self):
        for sheaf in (sheaf_of(0), sheaf_of(-3, -3, -3)):
            for breadth in BREADTHS:
                self.assertEqual(plan(sheaf, sheaf.top, {}, breadth=breadth), [])
                self.assertEqual(plan(sheaf, sheaf.top, {"a": 1}, breadth=breadth), [])
                shares = full_shares(sheaf, sheaf.top, {}, breadth=breadth)
                self.assertEqual(shares, sheaf.shares())
            self.check_refused(sheaf, sheaf.top - 1, {}, 1)
            self.check_refused(sheaf, sheaf.top + 1, {}, 1)

    def test_all_sheets_for_one_of_two_that_have_the_top(self):
        # The other one that has the top has to wear off and be written over.
        for sheaf in (Sheaf([(5, "x"), (5, "y"), (0, "f")]), Sheaf([(5, "y"), (0, "f"), (5, "x")])):
            self.check_plan(sheaf, 4, {"y": 3}, 2)
            self.check_shares(sheaf, 4, {"y": 3}, 2)
            self.check_refused(sheaf, 4, {"y": 3}, 1)
        sheaf = Sheaf([(4, "x"), (4, "x"), (4, "x"), (4, "y"), (0, "f"), (1, "f")])
        self.check_plan(sheaf, 2, {"y": 4}, 1)
        self.check_plan(sheaf, 2, {"y": 6}, 2)

    def test_records_that_no_sheet_bears(self):
        self.check_plan(STAIRS, 1, {"z": 0, "c": 2}, 1)
        self.check_shares(STAIRS, 1, {"z": 0, "c": 2}, 1)
        self.check_refused(STAIRS, 1, {"z": 1}, 1)

    def test_each_form_of_a_reason(self):
        self.check_refused(STAIRS, 1, {"a": 2, "c": 2}, 1)
        self.check_refused(STAIRS, 2, {"a": 1}, 1)
        self.check_refused(STAIRS, 1, {"a": 1, "b": 2}, 1)
        self.check_refused(STAIRS, 0, {"b": 1}, 1)

    def test_against_search(self):
        for breadth, most_sharpness in [(1, 4), (2, 3), (3, 3)]:
            for sheaf in small_sheaves(4, most_sharpness):
                self.check_all(sheaf, "abcd"[-len(sheaf):][:3], 2, breadth)

    def test_repeated_records_against_search(self):
        for breadth in (1, 2):
            for sheaf in small_record_sheaves(4, 2):
                if sheaf.records() == ["a", "b"] and sheaf.record_of(0) == "a":
                    self.check_all(sheaf, "ab", 3, breadth)

    def check_all(self, sheaf, records, most, breadth):
        for end in range(sheaf.bottom - 1, sheaf.top + 2):
            told = shares_at(sheaf, end, breadth)
            for demands in all_demands(records, most):
                if any(meets(shares, demands) for shares in told):
                    self.check_plan(sheaf, end, demands, breadth)
                    shares = full_shares(sheaf, end, demands, breadth=breadth)
                    self.assertIn(shares, told)
                    self.assertTrue(meets(shares, demands))
                else:
                    self.check_refused(sheaf, end, demands, breadth)

    def test_what_is_left_by_some_log_can_be_planned(self):
        chance = Random(101)
        for seed, most_sheets, span in [(102, 12, 5), (103, 12, 12), (104, 40, 4), (105, 40, 30)]:
            for sheaf in some_sheaves(seed, 25, most_sheets=most_sheets, span=span):
                for breadth in (1, 2, 6):
                    rows = complete_log(sheaf, breadth, chance)[1]
                    shares = shares_of_rows(rows)
                    left = self.check_plan(sheaf, rows[0][0], shares, breadth)
                    self.assertEqual(shares_of_rows(left.rows()), shares)
                    fewer = {record: shares[record] // 2 for record in shares}
                    self.check_shares(sheaf, rows[0][0], fewer, breadth)

    def test_forty_different_records(self):
        chance = Random(106)
        for told in [
            list(range(40)), [0] * 20 + list(range(20)), [0] * 39 + [6], [5] * 20 + [0] * 20,
            [chance.randint(-1000, -970) for _ in range(40)],
        ]:
            chance.shuffle(told)
            sheaf = sheaf_of(*told)
            for breadth in (1, 2, 6):
                ends = possible_ends(sheaf, breadth=breadth)
                for end in {ends[0], ends[len(ends) // 2], ends[-1]}:
                    self.check_plan(sheaf, end, {}, breadth)
                    self.check_shares(sheaf, end, {}, breadth)
                rows = complete_log(sheaf, breadth, chance)[1]
                self.check_plan(sheaf, rows[0][0], shares_of_rows(rows), breadth)

    def test_far_sharpnesses(self):
        sheaf = Sheaf([(1000, "a"), (999, "b")] + [(-1000, "c")] * 38)
        for breadth in (1, 6):
            for end in possible_ends(sheaf, breadth=breadth):
                self.check_shares(sheaf, end, {"a": 20}, breadth)
                if end > 961:
                    self.check_shares(sheaf, end, {"a": 20, "b": 1}, breadth)
        self.check_refused(sheaf, 961, {"a": 20, "b": 1}, 1)
        self.check_refused(sheaf, -1000, {"a": 1}, 1)


if __name__ == "__main__":
    unittest.main()
