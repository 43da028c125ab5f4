import unittest
from random import Random

from tests.helpers import (
    all_deeds, longest_by_search, sharpnesses_of, sheaf_of, small_sheaves, some_log, some_sheaves,
)
from wornsheaf.deeds import apply_deed, each_state, is_complete
from wornsheaf.longest import deeds_left, longest_log, own_low
from wornsheaf.sheaf import Sheaf
from wornsheaf.steady import is_near

STAIRS = sheaf_of(0, 1, 2)


def own_low_by_words(sheaf, index):
    told = [s for s in sharpnesses_of(sheaf) if s <= sheaf.sharpness_of(index)]
    return max(s - len([other for other in told if other < s]) for s in told)


def left_by_words(sheaf):
    total = 0
    for index, (sharpness, _) in enumerate(sheaf.rows()):
        total += 2 ** (sharpness - own_low_by_words(sheaf, index)) - 1
    return total


class TestOwnLow(unittest.TestCase):
    def test_sheets_that_are_sharper_do_not_count(self):
        sheaf = sheaf_of(0, 5, 1, 9)
        self.assertEqual([own_low(sheaf, index) for index in range(4)], [0, 3, 0, 6])
        sheaf = sheaf_of(3, 3, 4, 5)
        self.assertEqual([own_low(sheaf, index) for index in range(4)], [3, 3, 3, 3])

    def test_a_fainter_sheet_may_show_it(self):
        sheaf = sheaf_of(0, 5, 5, 5, 6)
        self.assertEqual([own_low(sheaf, index) for index in range(5)], [0, 4, 4, 4, 4])

    def test_against_the_words(self):
        for sheaf in list(small_sheaves(4, 5)) + list(some_sheaves(241, 30)):
            for index in range(len(sheaf)):
                self.assertEqual(own_low(sheaf, index), own_low_by_words(sheaf, index))


class TestDeedsLeft(unittest.TestCase):
    def test_examples(self):
        self.assertEqual(deeds_left(Sheaf([(0, "a"), (1, "b"), (2, "c")])), 4)
        self.assertEqual(deeds_left(Sheaf([(1, "a"), (2, "b")])), 1)

    def test_level_sheaves(self):
        for sheaf in (sheaf_of(0), sheaf_of(-7, -7), sheaf_of(*[3] * 40)):
            self.assertEqual(deeds_left(sheaf), 0)
            self.assertEqual(longest_log(sheaf), [])

    def test_against_the_words(self):
        for sheaf in list(small_sheaves(4, 5)) + list(some_sheaves(242, 40)):
            self.assertEqual(deeds_left(sheaf), left_by_words(sheaf))

    def test_against_search(self):
        known = {}
        for sheaf in small_sheaves(5, 5):
            self.assertEqual(deeds_left(sheaf), longest_by_search(sharpnesses_of(sheaf), known))

    def test_each_deed_lowers_them(self):
        for sheaf in small_sheaves(5, 4):
            left = deeds_left(sheaf)
            for deed in all_deeds(sheaf, 1):
                after = apply_deed(sheaf, deed)
                self.assertLessEqual(deeds_left(after), left - 1)
                if is_near(sheaf, deed) and sheaf.sharpness_of(deed[1][0]) == sheaf.bottom:
                    self.assertEqual(deeds_left(after), left - 1)

    def test_the_greatest_number(self):
        chance = Random(243)
        for count in range(1, 41):
            most = 2 ** count - count - 1
            told = chance.sample(range(-1000, 1001), count)
            self.assertEqual(deeds_left(sheaf_of(*told)), most)
            self.assertEqual(deeds_left(sheaf_of(*range(count))), most)
            told[0] = told[-1]
            if count > 1:
                self.assertLess(deeds_left(sheaf_of(*told)), most)


class TestLongestLog(unittest.TestCase):
    def check(self, sheaf, length):
        log = longest_log(sheaf)
        self.assertIsInstance(log, list)
        self.assertEqual(len(log), length)
        self.assertIs(is_complete(sheaf, log), True)
        return log

    def test_against_search(self):
        known = {}
        for sheaf in small_sheaves(5, 4):
            self.check(sheaf, longest_by_search(sharpnesses_of(sheaf), known))

    def test_the_deeds_left_along_the_log(self):
        for sheaf in [STAIRS, sheaf_of(5, 0, 2, 2), sheaf_of(*range(7))]:
            log = self.check(sheaf, deeds_left(sheaf))
            left = [deeds_left(state) for state in each_state(sheaf, log)]
            self.assertEqual(left, list(range(len(log), -1, -1)))

    def test_ten_sheets_that_are_all_different(self):
        chance = Random(244)
        self.check(sheaf_of(*range(10)), 1013)
        self.check(sheaf_of(*range(-9, 1)), 1013)
        self.check(sheaf_of(*chance.sample(range(-1000, 1001), 10)), 1013)

    def test_no_log_has_more_deeds(self):
        chance = Random(245)
        for sheaf in some_sheaves(246, 40, most_sheets=10):
            log, _ = some_log(sheaf, 1, chance, most=2000)
            self.assertLessEqual(len(log), deeds_left(sheaf))
            self.check(sheaf, left_by_words(sheaf))


if __name__ == "__main__":
    unittest.main()
