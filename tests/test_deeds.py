import unittest
from random import Random

from tests.helpers import after, all_deeds, sheaf_of, small_sheaves, some_log, some_sheaves
from wornsheaf.deeds import (
    apply_deed, each_state, is_allowed, is_complete, replay, single_deeds,
)
from wornsheaf.errors import InvalidDeed
from wornsheaf.sheaf import Sheaf

STAIRS = sheaf_of(0, 1, 2)
WIDE = sheaf_of(1, 4, 0, 2, 4, 2, 1)


class TestAllowed(unittest.TestCase):
    def test_allowed_without_breadth(self):
        for deed in [(1, (0,)), (2, (0,)), (2, (1,))]:
            self.assertIs(is_allowed(STAIRS, deed), True, deed)
            self.assertIs(is_allowed(STAIRS, deed, breadth=1), True, deed)

    def test_allowed_with_several_targets(self):
        for deed in [(1, (0, 2)), (1, (0, 2, 3, 5, 6)), (4, (3, 6)), (3, (0, 2, 6))]:
            many = len(deed[1])
            self.assertIs(is_allowed(WIDE, deed, breadth=many), True, deed)
            self.assertIs(is_allowed(WIDE, deed, breadth=6), True, deed)
            self.assertIs(is_allowed(WIDE, deed, breadth=many - 1), False, deed)
            self.assertIs(is_allowed(WIDE, deed), False, deed)

    def broken(self, sheaf, deed, breadth):
        self.assertIs(is_allowed(sheaf, deed, breadth=breadth), False, deed)
        with self.assertRaises(InvalidDeed) as caught:
            apply_deed(sheaf, deed, breadth=breadth)
        self.assertEqual(caught.exception.position, 0)

    def test_indexes_outside(self):
        for breadth in (1, 2, 6):
            self.broken(STAIRS, (-1, (0,)), breadth)
            self.broken(STAIRS, (3, (0,)), breadth)
            self.broken(STAIRS, (2, (-1,)), breadth)
            self.broken(STAIRS, (2, (-3,)), breadth)
            self.broken(STAIRS, (2, (3,)), breadth)
        for breadth in (2, 6):
            self.broken(WIDE, (1, (-1, 0)), breadth)
            self.broken(WIDE, (1, (-5, 0)), breadth)
            self.broken(WIDE, (1, (0, 7)), breadth)

    def test_no_target(self):
        for breadth in (1, 2, 6):
            self.broken(STAIRS, (2, ()), breadth)

    def test_too_many_targets(self):
        self.broken(STAIRS, (2, (0, 1)), 1)
        self.broken(WIDE, (1, (0, 2, 3)), 2)
        self.assertIs(is_allowed(STAIRS, (2, (0, 1))), False)

    def test_targets_not_ascending(self):
        for breadth in (3, 6):
            self.broken(STAIRS, (2, (1, 0)), breadth)
            self.broken(STAIRS, (2, (0, 0)), breadth)
            self.broken(WIDE, (1, (0, 3, 3)), breadth)
            self.broken(WIDE, (1, (0, 3, 2)), breadth)

    def test_target_not_fainter(self):
        for breadth in (2, 6):
            self.broken(STAIRS, (1, (2,)), breadth)
            self.broken(STAIRS, (1, (1,)), breadth)
            self.broken(WIDE, (1, (4,)), breadth)
            self.broken(WIDE, (3, (0, 5)), breadth)
            self.broken(WIDE, (3, (0, 1)), breadth)
            self.broken(WIDE, (3, (1, 6)), breadth)

    def test_negative_sharpnesses(self):
        sheaf = sheaf_of(-5, -3)
        self.assertIs(is_allowed(sheaf, (1, (0,))), True)
        self.broken(sheaf, (0, (1,)), 1)

    def test_one_sheet(self):
        self.broken(sheaf_of(3), (0, (0,)), 1)
        self.broken(sheaf_of(3), (0, ()), 1)

    def test_against_all_deeds(self):
        for sheaf in small_sheaves(4, 3):
            wanted = all_deeds(sheaf, 2)
            indexes = range(-1, len(sheaf) + 1)
            told = [(s, (t,)) for s in indexes for t in indexes]
            told += [(s, (t, u)) for s in indexes for t in indexes for u in indexes]
            found = [deed for deed in told if is_allowed(sheaf, deed, breadth=2)]
            self.assertEqual(sorted(found), sorted(wanted))


class TestApply(unittest.TestCase):
    def test_example(self):
        self.assertEqual(
            apply_deed(STAIRS, (2, (0,))).rows(), [(1, "c"), (1, "b"), (1, "c")]
        )
        self.assertEqual(STAIRS.rows(), [(0, "a"), (1, "b"), (2, "c")])

    def test_several_targets(self):
        self.assertEqual(
            apply_deed(WIDE, (4, (0, 2, 5)), breadth=3).rows(),
            [(3, "e"), (4, "b"), (3, "e"), (2, "d"), (3, "e"), (3, "e"), (1, "g")],
        )

    def test_target_keeps_its_sharpness(self):
        self.assertEqual(apply_deed(STAIRS, (2, (1,))).rows(), [(0, "a"), (1, "c"), (1, "c")])

    def test_against_the_words(self):
        for sheaf in small_sheaves(4, 3):
            for deed in all_deeds(sheaf, 3):
                found = apply_deed(sheaf, deed, breadth=3)
                self.assertEqual(found.rows(), after(sheaf.rows(), deed))


class TestLogs(unittest.TestCase):
    LOG = [(2, (0,)), (4, (3,))]
    SHEAF = sheaf_of(0, 0, 2, 0, 1)
    STATES = [
        [(0, "a"), (0, "b"), (2, "c"), (0, "d"), (1, "e")],
        [(1, "c"), (0, "b"), (1, "c"), (0, "d"), (1, "e")],
        [(1, "c"), (0, "b"), (1, "c"), (0, "e"), (0, "e")],
    ]

    def test_allowed_log(self):
        self.assertEqual(replay(self.SHEAF, self.LOG).rows(), self.STATES[2])
        states = list(each_state(self.SHEAF, self.LOG))
        self.assertEqual([state.rows() for state in states], self.STATES)

    def test_empty_log(self):
        self.assertTrue(replay(self.SHEAF, []) == self.SHEAF)
        self.assertEqual(
            [state.rows() for state in each_state(self.SHEAF, [])], self.STATES[:1]
        )

    def test_first_deed_that_is_not_allowed(self):
        for position in range(3):
            log = self.LOG[:position] + [(1, (0,)), (9, ())]
            with self.subTest(position=position):
                with self.assertRaises(InvalidDeed) as caught:
                    replay(self.SHEAF, log)
                self.assertEqual(caught.exception.position, position)
                states = []
                with self.assertRaises(InvalidDeed) as caught:
                    for state in each_state(self.SHEAF, log):
                        states.append(state.rows())
                self.assertEqual(caught.exception.position, position)
                self.assertEqual(states, self.STATES[:position + 1])

    def test_example(self):
        with self.assertRaises(InvalidDeed) as caught:
            replay(sheaf_of(0, 1), [(1, (0,)), (1, (0,))])
        self.assertEqual(caught.exception.position, 1)

    def test_breadth_is_held(self):
        log = [(2, (0, 1, 3))]
        self.assertEqual(
            replay(self.SHEAF, log, breadth=3).rows(), [(1, "c")] * 4 + [(1, "e")]
        )
        self.assertEqual(len(list(each_state(self.SHEAF, log, breadth=3))), 2)
        for breadth in (1, 2):
            with self.assertRaises(InvalidDeed):
                replay(self.SHEAF, log, breadth=breadth)
            with self.assertRaises(InvalidDeed):
                list(each_state(self.SHEAF, log, breadth=breadth))
        with self.assertRaises(InvalidDeed):
            replay(self.SHEAF, log)

    def test_breadth_left_out_is_1(self):
        deed = (4, (3, 6))
        for ask in (
            lambda: apply_deed(WIDE, deed), lambda: replay(WIDE, [deed]),
            lambda: list(each_state(WIDE, [deed])),
        ):
            with self.assertRaises(InvalidDeed) as caught:
                ask()
            self.assertEqual(caught.exception.position, 0)
        self.assertIs(is_complete(sheaf_of(0, 0, 1), [(2, (0, 1))]), False)

    def test_random_logs(self):
        chance = Random(5)
        for sheaf in some_sheaves(11, 60, most_sheets=12, span=5):
            for breadth in (1, 3):
                log, rows = some_log(sheaf, breadth, chance)
                self.assertEqual(replay(sheaf, log, breadth=breadth).rows(), rows)
                told = sheaf.rows()
                states = [told]
                for deed in log:
                    told = after(told, deed)
                    states.append(told)
                found = list(each_state(sheaf, log, breadth=breadth))
                self.assertEqual([state.rows() for state in found], states)

    def test_no_endless_log(self):
        chance = Random(6)
        for sheaf in some_sheaves(12, 20, most_sheets=6, span=4):
            log, rows = some_log(sheaf, 2, chance, most=2000)
            self.assertEqual(len({row[0] for row in rows}), 1)
            self.assertIs(is_complete(sheaf, log, breadth=2), True)
            if log:
                self.assertIs(is_complete(sheaf, log[:-1], breadth=2), False)


class TestComplete(unittest.TestCase):
    def test_complete(self):
        self.assertIs(is_complete(STAIRS, [(2, (0,))]), True)
        self.assertIs(is_complete(STAIRS, [(2, (0,))], breadth=4), True)
        self.assertIs(is_complete(STAIRS, [(1, (0,)), (2, (0,)), (0, (1,)), (2, (1,))]), True)
        self.assertIs(is_complete(STAIRS, [(2, (1,)), (1, (0,)), (2, (1,))]), True)
        self.assertIs(is_complete(sheaf_of(0, 0, 1), [(2, (0, 1))], breadth=2), True)

    def test_stops_early(self):
        self.assertIs(is_complete(STAIRS, [(2, (1,))]), False)
        self.assertIs(is_complete(STAIRS, [(1, (0,))]), False)

    def test_not_allowed(self):
        self.assertIs(is_complete(STAIRS, [(0, (2,))]), False)
        self.assertIs(is_complete(STAIRS, [(2, (0,)), (2, (0,))]), False)
        self.assertIs(is_complete(sheaf_of(0, 0, 1), [(2, (0, 1))]), False)
        self.assertIs(is_complete(sheaf_of(1, 1), [(0, (1,))]), False)

    def test_empty_log(self):
        self.assertIs(is_complete(sheaf_of(4, 4, 4), []), True)
        self.assertIs(is_complete(sheaf_of(4), []), True)
        self.assertIs(is_complete(STAIRS, []), False)


class TestSingleDeeds(unittest.TestCase):
    def test_examples(self):
        self.assertEqual(single_deeds(STAIRS), [(1, (0,)), (2, (0,)), (2, (1,))])
        self.assertEqual(
            single_deeds(Sheaf([(1, "a"), (0, "b"), (2, "c")])),
            [(0, (1,)), (2, (0,)), (2, (1,))],
        )

    def test_empty_exactly_for_level_sheaves(self):
        for sheaf in small_sheaves(4, 3):
            self.assertEqual(single_deeds(sheaf) == [], sheaf.is_level())

    def test_all_in_ascending_order(self):
        for sheaf in some_sheaves(13, 30, most_sheets=12):
            self.assertEqual(single_deeds(sheaf), sorted(all_deeds(sheaf, 1)))

    def test_more_than_nine_sheets(self):
        deeds = single_deeds(sheaf_of(*[5] * 11, 6))
        self.assertEqual(deeds, [(11, (k,)) for k in range(11)])


if __name__ == "__main__":
    unittest.main()
