import unittest

from tests.helpers import all_deeds, sharpnesses_of, sheaf_of, small_sheaves, some_sheaves
from wornsheaf.deeds import apply_deed, each_state, is_complete
from wornsheaf.ends import high_end, low_end
from wornsheaf.steady import far_log, is_far, is_near, near_log

SHEAF = sheaf_of(0, 2, 2, 5, 5, 7, 7, 0)


def near_by_words(sheaf, deed):
    told = sharpnesses_of(sheaf)
    low, high = told[deed[1][0]], told[deed[0]]
    return not [s for s in told if low < s < high]


def far_by_words(sheaf, deed):
    told = sharpnesses_of(sheaf)
    return told[deed[0]] == max(told) and told[deed[1][0]] == min(told)


class TestNear(unittest.TestCase):
    def test_near(self):
        for deed in [(1, (0,)), (2, (7,)), (3, (1,)), (4, (2,)), (5, (3,)), (6, (4,))]:
            self.assertIs(is_near(SHEAF, deed), True, deed)

    def test_a_sheet_between(self):
        for deed in [(3, (0,)), (5, (1,)), (5, (0,)), (6, (2,))]:
            self.assertIs(is_near(SHEAF, deed), False, deed)
        self.assertIs(is_near(sheaf_of(0, 2, 1), (1, (0,))), False)
        self.assertIs(is_near(sheaf_of(-1000, 1000), (1, (0,))), True)

    def test_not_allowed(self):
        for deed in [
            (1, (2,)), (0, (1,)), (1, (3,)), (1, (1,)), (1, (-1,)), (-1, (0,)), (8, (5,)),
            (5, (8,)), (-2, (4,)), (1, ()),
        ]:
            self.assertIs(is_near(SHEAF, deed), False, deed)

    def test_several_targets(self):
        for deed in [(1, (0, 7)), (3, (1, 2)), (3, (2, 1)), (3, (1, 1))]:
            self.assertIs(is_near(SHEAF, deed), False, deed)


class TestFar(unittest.TestCase):
    def test_far(self):
        for deed in [(5, (0,)), (5, (7,)), (6, (0,)), (6, (7,))]:
            self.assertIs(is_far(SHEAF, deed), True, deed)

    def test_source_below_the_top_or_target_above_the_bottom(self):
        for deed in [(3, (0,)), (1, (7,)), (5, (1,)), (6, (4,)), (3, (1,))]:
            self.assertIs(is_far(SHEAF, deed), False, deed)

    def test_not_allowed(self):
        for deed in [(0, (5,)), (5, (-8,)), (-3, (0,)), (5, (-1,)), (8, (0,)), (5, (8,)), (5, ())]:
            self.assertIs(is_far(SHEAF, deed), False, deed)
        level = sheaf_of(3, 3)
        for deed in [(0, (1,)), (1, (0,)), (0, (0,))]:
            self.assertIs(is_far(level, deed), False, deed)
            self.assertIs(is_near(level, deed), False, deed)

    def test_several_targets(self):
        for deed in [(5, (0, 7)), (5, (7, 0)), (5, (0, 0))]:
            self.assertIs(is_far(SHEAF, deed), False, deed)


class TestPlay(unittest.TestCase):
    def test_against_the_words(self):
        for sheaf in small_sheaves(5, 3):
            for deed in all_deeds(sheaf, 1):
                self.assertEqual(is_near(sheaf, deed), near_by_words(sheaf, deed))
                self.assertEqual(is_far(sheaf, deed), far_by_words(sheaf, deed))

    def test_near_deeds_leave_the_low_end(self):
        for sheaf in small_sheaves(5, 4):
            for deed in all_deeds(sheaf, 1):
                if is_near(sheaf, deed):
                    self.assertEqual(low_end(apply_deed(sheaf, deed)), low_end(sheaf))

    def test_far_deeds_leave_the_high_end(self):
        for sheaf in small_sheaves(5, 4):
            for deed in all_deeds(sheaf, 1):
                if is_far(sheaf, deed):
                    self.assertEqual(high_end(apply_deed(sheaf, deed)), high_end(sheaf))


class TestLogs(unittest.TestCase):
    def sheaves(self):
        told = [
            sheaf_of(3), sheaf_of(3, 3, 3), sheaf_of(-1000, 1000), sheaf_of(1000, -1000, 1000),
            sheaf_of(*[-1000] * 20, *[1000] * 20), sheaf_of(*[1000] * 39, -1000),
            sheaf_of(*[-1000] * 39, 1000), sheaf_of(*range(40)), sheaf_of(*range(40, 0, -1)),
            sheaf_of(*[0] * 39, 40), sheaf_of(*range(-1000, 1000, 50)), sheaf_of(0, *[39] * 39),
        ]
        return told + list(small_sheaves(4, 4)) + list(some_sheaves(71, 25)) + list(
            some_sheaves(72, 10, span=400)
        )

    def check(self, sheaf, log, is_steady, end):
        self.assertIs(is_complete(sheaf, log), True)
        self.assertLessEqual(len(log), len(sheaf) ** 2)
        states = list(each_state(sheaf, log))
        for state, deed in zip(states, log):
            self.assertIs(is_steady(state, deed), True)
        self.assertEqual(states[-1].top, end)

    def test_near_logs(self):
        for sheaf in self.sheaves():
            self.check(sheaf, near_log(sheaf), is_near, low_end(sheaf))

    def test_far_logs(self):
        for sheaf in self.sheaves():
            self.check(sheaf, far_log(sheaf), is_far, high_end(sheaf))

    def test_level_sheaves_need_no_deed(self):
        for sheaf in (sheaf_of(0), sheaf_of(2, 2), sheaf_of(*[-3] * 40)):
            self.assertEqual(near_log(sheaf), [])
            self.assertEqual(far_log(sheaf), [])


if __name__ == "__main__":
    unittest.main()
