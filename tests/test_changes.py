import unittest
from itertools import combinations_with_replacement

from tests.helpers import BREADTHS, letters, sharpnesses_of, sheaf_of, small_sheaves, some_sheaves
from wornsheaf.changes import (
    lifts_to_raise, sharpened, sheets_to_lower, side_by_side, with_sheet, without_sheet,
)
from wornsheaf.deeds import is_complete, replay
from wornsheaf.ends import high_end, low_end, possible_ends
from wornsheaf.errors import InvalidSheaf
from wornsheaf.sheaf import Sheaf
from wornsheaf.stages import plan
from wornsheaf.steady import far_log, near_log

ROWS = [(0, "a"), (3, "b"), (1, "a"), (-5, "c9")]
SHEAF = Sheaf(ROWS)


class TestChangedSheaves(unittest.TestCase):
    def test_with_sheet(self):
        for row in [(3, "b"), (-1000, "zzzzzzzz"), (1000, "0")]:
            self.assertEqual(with_sheet(SHEAF, *row).rows(), ROWS + [row])
        self.assertEqual(with_sheet(sheaf_of(2), 2, "a").rows(), [(2, "a"), (2, "a")])
        self.assertEqual(SHEAF.rows(), ROWS)

    def test_with_sheet_of_a_wrong_record(self):
        for sheaf in (SHEAF, sheaf_of(0), sheaf_of(*range(40))):
            for record in ("", "A", "a b", "abcdefghi", "-", "a:"):
                with self.assertRaises(InvalidSheaf) as caught:
                    with_sheet(sheaf, 0, record)
                self.assertEqual(caught.exception.index, len(sheaf))

    def test_without_sheet(self):
        for index in range(4):
            wanted = ROWS[:index] + ROWS[index + 1:]
            self.assertEqual(without_sheet(SHEAF, index).rows(), wanted)
        twice = Sheaf([(1, "a"), (1, "a"), (2, "a")])
        self.assertEqual(without_sheet(twice, 1).rows(), [(1, "a"), (2, "a")])
        self.assertEqual(SHEAF.rows(), ROWS)

    def test_without_the_only_sheet(self):
        for sharpness in (0, 7, -1000):
            with self.assertRaises(InvalidSheaf) as caught:
                without_sheet(sheaf_of(sharpness), 0)
            self.assertEqual(caught.exception.index, 0)

    def test_sharpened(self):
        for index in range(4):
            for steps in (-2000, -3, -1, 0, 1, 2, 1000):
                wanted = list(ROWS)
                wanted[index] = (ROWS[index][0] + steps, ROWS[index][1])
                self.assertEqual(sharpened(SHEAF, index, steps).rows(), wanted)
        self.assertEqual(SHEAF.rows(), ROWS)


class TestWhatChangesDoToTheEnds(unittest.TestCase):
    def test_adding_a_sheet_no_sharper_than_the_top(self):
        falls = set()
        for sheaf in small_sheaves(4, 4):
            for sharpness in range(sheaf.bottom - 6, sheaf.top + 1):
                fall = low_end(sheaf) - low_end(with_sheet(sheaf, sharpness, "z"))
                self.assertIn(fall, (0, 1))
                falls.add(fall)
        self.assertEqual(falls, {0, 1})

    def test_adding_a_sheet_one_fainter_than_the_low_end(self):
        for sheaf in small_sheaves(4, 5):
            low = low_end(sheaf)
            self.assertEqual(low_end(with_sheet(sheaf, low - 1, "z")), low - 1)

    def test_adding_a_sheet_sharper_than_the_top(self):
        for sheaf in small_sheaves(4, 4):
            for sharpness in range(sheaf.top + 1, sheaf.top + 7):
                later = with_sheet(sheaf, sharpness, "z")
                self.assertGreaterEqual(low_end(later), low_end(sheaf))

    def test_removing_a_sheet_no_sharper_than_the_high_end(self):
        removed = 0
        for sheaf in small_sheaves(5, 4):
            for breadth in (1, 2, 3):
                high = high_end(sheaf, breadth=breadth)
                for index in range(len(sheaf)):
                    if len(sheaf) > 1 and sheaf.sharpness_of(index) <= high:
                        later = without_sheet(sheaf, index)
                        self.assertGreaterEqual(high_end(later, breadth=breadth), high)
                        removed += 1
        self.assertGreater(removed, 500)

    def test_making_a_sheet_sharper(self):
        rises = set()
        for sheaf in small_sheaves(4, 4):
            for index in range(len(sheaf)):
                later = sharpened(sheaf, index, 1)
                low = low_end(later) - low_end(sheaf)
                for breadth in (1, 2, 3):
                    high = high_end(later, breadth=breadth) - high_end(sheaf, breadth=breadth)
                    self.assertIn(low, (0, 1))
                    self.assertIn(high, (0, 1))
                    rises.add((low, high))
        self.assertEqual(rises, {(0, 0), (0, 1), (1, 0), (1, 1)})


class TestSheetsToLower(unittest.TestCase):
    def test_example(self):
        self.assertEqual(sheets_to_lower(Sheaf([(0, "a"), (2, "b")]), -1), [0, -1])

    def test_end_at_and_above_the_low_end(self):
        for sheaf in list(small_sheaves(3, 4)) + list(some_sheaves(71, 30)):
            for end in (low_end(sheaf), low_end(sheaf) + 1, sheaf.top + 50):
                self.assertEqual(sheets_to_lower(sheaf, end), [])

    def test_answers_applied(self):
        for sheaf in list(small_sheaves(4, 4)) + list(some_sheaves(72, 30, span=40)):
            low = low_end(sheaf)
            for fall in (1, 2, 3, 17):
                found = sheets_to_lower(sheaf, low - fall)
                self.assertEqual(found, [low - k for k in range(1, fall + 1)])
                later = sheaf
                for sharpness in found:
                    later = with_sheet(later, sharpness, "new")
                self.assertEqual(low_end(later), low - fall)

    def test_no_shorter_list_does_it(self):
        for sheaf in small_sheaves(3, 3):
            low = low_end(sheaf)
            for fall in (1, 2, 3):
                told = range(low - fall - 1, sheaf.top + 2)
                for few in range(fall):
                    for tried in combinations_with_replacement(told, few):
                        later = Sheaf(sheaf.rows() + [(sharpness, "z") for sharpness in tried])
                        self.assertGreater(low_end(later), low - fall)

    def test_far_ends(self):
        found = sheets_to_lower(sheaf_of(1000), -1000)
        self.assertEqual(found, list(range(999, -1001, -1)))


def lifted(sheaf, lifts):
    """Return the sheaf after the sharpenings of these sheets."""
    for index in lifts:
        sheaf = sharpened(sheaf, index, 1)
    return sheaf


class TestLiftsToRaise(unittest.TestCase):
    def test_example(self):
        self.assertEqual(lifts_to_raise(Sheaf([(0, "a"), (0, "b")]), 1), 2)

    def test_end_at_and_below_the_high_end(self):
        for sheaf in list(small_sheaves(3, 4)) + list(some_sheaves(73, 20)):
            for breadth in BREADTHS:
                high = high_end(sheaf, breadth=breadth)
                for end in (high, high - 1, high - 30):
                    self.assertEqual(lifts_to_raise(sheaf, end, breadth=breadth), 0)

    def test_answers_applied_to_a_sheet_that_has_the_top(self):
        for sheaf in list(small_sheaves(4, 4)) + list(some_sheaves(74, 20)):
            tops = [k for k in range(len(sheaf)) if sheaf.sharpness_of(k) == sheaf.top]
            for breadth in BREADTHS:
                high = high_end(sheaf, breadth=breadth)
                for end in (high + 1, high + 2, sheaf.top + 3, sheaf.top + 100):
                    lifts = lifts_to_raise(sheaf, end, breadth=breadth)
                    for index in tops:
                        enough = sharpened(sheaf, index, lifts)
                        self.assertGreaterEqual(high_end(enough, breadth=breadth), end)
                        fewer = sharpened(sheaf, index, lifts - 1)
                        self.assertLess(high_end(fewer, breadth=breadth), end)

    def test_no_fewer_sharpenings_do_it(self):
        for breadth in (1, 2, 3):
            for sheaf in small_sheaves(4, 2):
                high = high_end(sheaf, breadth=breadth)
                for end in (high + 1, high + 2):
                    few = lifts_to_raise(sheaf, end, breadth=breadth) - 1
                    for lifts in combinations_with_replacement(range(len(sheaf)), few):
                        later = lifted(sheaf, lifts)
                        self.assertLess(high_end(later, breadth=breadth), end)

    def test_far_ends_and_many_sheets(self):
        self.assertEqual(lifts_to_raise(sheaf_of(-1000), 1000), 2000)
        self.assertEqual(lifts_to_raise(sheaf_of(-1000, -1000), 1000), 2001)
        # One sheet has to reach all forty: 2 to the power of 6, 7 to the power of 2.
        self.assertEqual(lifts_to_raise(sheaf_of(*[0] * 40), 1), 7)
        self.assertEqual(lifts_to_raise(sheaf_of(*[0] * 40), 1, breadth=6), 3)
        # Here the others have the end themselves, so that one sheet adds 2 for two.
        self.assertEqual(lifts_to_raise(sheaf_of(*[0] * 39, -1), 0), 1)


def bound_pairs():
    told = list(small_sheaves(3, 3))
    for first in told:
        for second in told:
            for shift in (-2, 0, 1):
                rows = [(sharpness + shift, "z" + record) for sharpness, record in second.rows()]
                yield first, Sheaf(rows)


class TestBoundSheaves(unittest.TestCase):
    def test_ends_of_the_bound_sheaf(self):
        for first, second in bound_pairs():
            bound = first + second
            for breadth in (1, 2):
                highs = sorted([high_end(part, breadth=breadth) for part in (first, second)])
                self.assertLessEqual(highs[0], high_end(bound, breadth=breadth))
                self.assertLessEqual(high_end(bound, breadth=breadth), highs[1])
            for part in (first, second):
                if part.top == bound.top:
                    self.assertLessEqual(low_end(bound), low_end(part))

    def test_logs_side_by_side(self):
        joined = 0
        for breadth in (1, 3):
            for first, second in bound_pairs():
                ends = set(possible_ends(first, breadth=breadth))
                for end in ends & set(possible_ends(second, breadth=breadth)):
                    logs = [plan(part, end, {}, breadth=breadth) for part in (first, second)]
                    log = side_by_side(len(first), *logs)
                    bound = first + second
                    self.assertTrue(is_complete(bound, log, breadth=breadth))
                    self.assertEqual(replay(bound, log, breadth=breadth).top, end)
                    joined += 1
        self.assertGreater(joined, 200)

    def test_logs_of_forty_sheets(self):
        first = Sheaf(list(zip(range(20), letters(20))))
        for logs in [(near_log, near_log), (far_log, far_log)]:
            told = [make(first) for make in logs]
            left = replay(first + first, side_by_side(20, *told))
            self.assertTrue(left.is_level())
            self.assertEqual(left.top, replay(first, told[0]).top)

    def test_indexes_are_moved(self):
        self.assertEqual(
            side_by_side(3, [(2, (0,)), (1, (0, 2))], [(1, (0,)), (2, (0, 1))]),
            [(2, (0,)), (1, (0, 2)), (4, (3,)), (5, (3, 4))],
        )
        self.assertEqual(side_by_side(5, [], []), [])
        self.assertEqual(side_by_side(5, [(9, (1,))], []), [(9, (1,))])
        self.assertEqual(side_by_side(1, [], [(1, (0,))]), [(2, (1,))])

    def test_nothing_about_the_logs_is_checked(self):
        self.assertEqual(
            side_by_side(2, [(-1, ()), (7, (9, 3, 3))], [(-4, (5, -9)), (0, ()), (1, (1,))]),
            [(-1, ()), (7, (9, 3, 3)), (-2, (7, -7)), (2, ()), (3, (3,))],
        )
        self.assertEqual(side_by_side(0, [(1, (0,))], [(-1, (2,))]), [(1, (0,)), (-1, (2,))])

    def test_sharpnesses_stay_as_they_are(self):
        first, second = sheaf_of(0, 2), sheaf_of(5, 1)
        self.assertEqual(sharpnesses_of(first + second), [0, 2, 5, 1])


if __name__ == "__main__":
    unittest.main()
