import unittest
from random import Random

from tests.helpers import all_deeds, sheaf_of, small_sheaves, some_log, some_sheaves
from wornsheaf.deeds import apply_deed, replay
from wornsheaf.errors import InvalidDeed, InvalidEntry
from wornsheaf.lineage import (
    apply_with_entry, first_shares, lineage, past_deed, undo_entry,
)
from wornsheaf.sheaf import Sheaf


class TestLineage(unittest.TestCase):
    def test_examples(self):
        log = [(2, (1,)), (1, (0,))]
        self.assertEqual(lineage(3, log), [(2, 2), (2, 2), (2, 1)])
        self.assertEqual(first_shares(3, log), [0, 0, 3])

    def test_empty_log(self):
        self.assertEqual(lineage(1, []), [(0, 0)])
        self.assertEqual(lineage(4, []), [(0, 0), (1, 0), (2, 0), (3, 0)])
        self.assertEqual(first_shares(4, []), [1, 1, 1, 1])

    def test_several_targets(self):
        log = [(3, (0, 2, 4)), (1, (2, 4)), (0, (3,))]
        self.assertEqual(lineage(5, log), [(3, 2), (1, 1), (1, 1), (3, 2), (1, 1)])
        self.assertEqual(first_shares(5, log), [0, 3, 0, 2, 0])

    def test_logs_that_no_sheaf_allows(self):
        self.assertEqual(lineage(2, [(1, (0,)), (1, (0,))]), [(1, 2), (1, 2)])
        self.assertEqual(lineage(2, [(1, (0,)), (0, (1,))]), [(1, 2), (1, 2)])
        self.assertEqual(
            lineage(3, [(0, (1,)), (1, (2,)), (2, (0,))]), [(0, 3), (0, 2), (0, 3)]
        )
        self.assertEqual(first_shares(3, [(0, (1, 2)), (0, (1, 2))]), [3, 0, 0])

    def test_against_replay(self):
        chance = Random(21)
        for sheaf in some_sheaves(22, 80, most_sheets=14, span=6):
            for breadth in (1, 2, 5):
                log, rows = some_log(sheaf, breadth, chance)
                marks = lineage(len(sheaf), log)
                told = [
                    (sheaf.sharpness_of(origin) - wear, sheaf.record_of(origin))
                    for origin, wear in marks
                ]
                self.assertEqual(told, rows)
                self.assertEqual(replay(sheaf, log, breadth=breadth).rows(), rows)
                origins = [origin for origin, _ in marks]
                shares = first_shares(len(sheaf), log)
                self.assertEqual(shares, [origins.count(k) for k in range(len(sheaf))])


class TestWellFormed(unittest.TestCase):
    FAULTS = [
        (-1, (0,)), (3, (0,)), (0, (-1,)), (0, (3,)), (0, (1, 3)), (2, (-1, 0)),
        (0, ()), (0, (2, 1)), (0, (1, 1)), (1, (1,)), (0, (0, 1)), (2, (0, 2)),
    ]

    def wrong_at(self, count, log, position):
        for function in (lineage, first_shares):
            with self.assertRaises(InvalidDeed) as caught:
                function(count, log)
            self.assertEqual(caught.exception.position, position)

    def test_faults(self):
        for fault in self.FAULTS:
            with self.subTest(fault=fault):
                self.wrong_at(3, [fault], 0)
                self.wrong_at(3, [(0, (1,)), fault], 1)
                self.wrong_at(3, [(0, (1, 2)), (1, (0,)), fault, (2, (1,))], 2)
                self.wrong_at(3, [(0, (1,)), fault, (9, ()), (0, ())], 1)

    def test_count_limits_the_indexes(self):
        log = [(0, (1,)), (2, (3,)), (4, (0,))]
        self.assertEqual(lineage(5, log), [(4, 1), (0, 1), (2, 1), (2, 1), (4, 1)])
        self.wrong_at(4, log, 2)
        self.wrong_at(3, log, 1)
        self.wrong_at(1, log, 0)


class TestEntries(unittest.TestCase):
    SHEAF = sheaf_of(0, 3, -1, 2, 5)

    def test_entry(self):
        after, entry = apply_with_entry(self.SHEAF, (1, (0,)))
        self.assertEqual(after.rows(), [(2, "b"), (2, "b"), (-1, "c"), (2, "d"), (5, "e")])
        self.assertEqual(entry, ((1, (0,)), ((1, 3, "b"), (0, 0, "a"))))
        self.assertIsInstance(entry, tuple)
        self.assertIsInstance(entry[1], tuple)
        self.assertTrue(after == apply_deed(self.SHEAF, (1, (0,))))

    def test_entry_with_several_targets(self):
        after, entry = apply_with_entry(self.SHEAF, (3, (0, 2)), breadth=2)
        self.assertEqual(after.rows(), [(1, "d"), (3, "b"), (1, "d"), (1, "d"), (5, "e")])
        self.assertEqual(entry, ((3, (0, 2)), ((3, 2, "d"), (0, 0, "a"), (2, -1, "c"))))

    def test_deed_that_is_not_allowed(self):
        for deed, breadth in [
            ((0, (1,)), 1), ((1, ()), 1), ((1, (0, 2)), 1), ((1, (2, 0)), 3), ((5, (0,)), 1),
            ((4, (-1,)), 1), ((1, (1,)), 1),
        ]:
            with self.subTest(deed=deed), self.assertRaises(InvalidDeed) as caught:
                apply_with_entry(self.SHEAF, deed, breadth=breadth)
            self.assertEqual(caught.exception.position, 0)

    def test_breadth_left_out_is_1(self):
        with self.assertRaises(InvalidDeed) as caught:
            apply_with_entry(self.SHEAF, (3, (0, 2)))
        self.assertEqual(caught.exception.position, 0)

    def test_undone_one_after_the_other(self):
        chance = Random(31)
        for sheaf in some_sheaves(32, 30, most_sheets=10, span=5):
            for breadth in (1, 3):
                log, rows = some_log(sheaf, breadth, chance)
                states = [sheaf]
                entries = []
                for deed in log:
                    after, entry = apply_with_entry(states[-1], deed, breadth=breadth)
                    states.append(after)
                    entries.append(entry)
                self.assertEqual(states[-1].rows(), rows)
                current = states.pop()
                while entries:
                    current = undo_entry(current, entries.pop())
                    self.assertTrue(current == states.pop())

    def test_any_number_of_targets(self):
        sheaf = sheaf_of(*[0] * 12, 1)
        deed = (12, tuple(range(12)))
        after, entry = apply_with_entry(sheaf, deed, breadth=12)
        self.assertTrue(undo_entry(after, entry) == sheaf)


class TestEntriesThatDoNotFit(unittest.TestCase):
    AFTER = Sheaf([(1, "d"), (3, "b"), (1, "d"), (1, "d"), (5, "e")])
    DEED = (3, (0, 2))
    BEFORE = ((3, 2, "d"), (0, 0, "a"), (2, -1, "c"))

    def test_the_entry_itself_fits(self):
        earlier = undo_entry(self.AFTER, (self.DEED, self.BEFORE))
        self.assertEqual(
            earlier.rows(), [(0, "a"), (3, "b"), (-1, "c"), (2, "d"), (5, "e")]
        )

    def refused(self, deed, before, after=None):
        sheaf = self.AFTER if after is None else after
        with self.subTest(deed=deed, before=before), self.assertRaises(InvalidEntry):
            undo_entry(sheaf, (deed, before))

    def test_indexes_of_before(self):
        source, first, second = self.BEFORE
        self.refused(self.DEED, (source, second, first))
        self.refused(self.DEED, (first, source, second))
        self.refused(self.DEED, (source, first, (3, -1, "c")))
        self.refused(self.DEED, (source, first, (4, -1, "c")))
        self.refused(self.DEED, ((2, 2, "d"), first, second))

    def test_too_few_or_too_many_rows(self):
        source, first, second = self.BEFORE
        self.refused(self.DEED, ())
        self.refused(self.DEED, (source,))
        self.refused(self.DEED, (source, first))
        self.refused(self.DEED, (source, first, second, second))
        self.refused(self.DEED, (source, first, second, (4, 5, "e")))
        self.refused((3, (0,)), (source, first, second))

    def test_indexes_that_are_none_of_the_sheaf(self):
        source, first, second = self.BEFORE
        self.refused((-2, (0, 2)), ((-2, 2, "d"), first, second))
        self.refused((3, (-5, 2)), (source, (-5, 0, "a"), second))
        self.refused((3, (0, 5)), (source, first, (5, -1, "c")))
        self.refused((5, (0, 2)), ((5, 2, "d"), first, second))

    def test_records_that_are_not_valid(self):
        for record in ["", "A", "a b", "c\n", "abcdefghi"]:
            for at in (1, 2):
                before = list(self.BEFORE)
                before[at] = (before[at][0], before[at][1], record)
                self.refused(self.DEED, tuple(before))
        self.refused(self.DEED, ((3, 2, "D"), *self.BEFORE[1:]))

    def test_deeds_that_are_not_allowed_before(self):
        source = self.BEFORE[0]
        self.refused((3, ()), (source,))
        self.refused(self.DEED, (source, (0, 2, "a"), self.BEFORE[2]))
        self.refused(self.DEED, (source, self.BEFORE[1], (2, 3, "c")))
        self.refused((3, (2, 0)), (source, self.BEFORE[2], self.BEFORE[1]))
        self.refused((3, (0, 0)), (source, self.BEFORE[1], self.BEFORE[1]))
        self.refused((3, (3,)), (source, source), Sheaf([(1, "d")] * 4))
        self.refused((3, (0, 3)), (source, self.BEFORE[1], (3, 1, "d")))

    def test_deeds_that_do_not_lead_to_the_sheaf(self):
        first, second = self.BEFORE[1:]
        self.refused(self.DEED, ((3, 3, "d"), first, second))
        self.refused(self.DEED, ((3, 1, "d"), first, second))
        self.refused(self.DEED, ((3, 2, "e"), first, second))
        for at in (0, 2, 3):
            rows = self.AFTER.rows()
            rows[at] = (0, "d")
            self.refused(self.DEED, self.BEFORE, Sheaf(rows))
            rows[at] = (1, "e")
            self.refused(self.DEED, self.BEFORE, Sheaf(rows))


class TestPastDeed(unittest.TestCase):
    def check(self, sheaf):
        rows = sheaf.rows()
        found = past_deed(sheaf)
        if len(set(rows)) == len(rows):
            self.assertIsNone(found)
            return
        self.assertIsInstance(found, tuple)
        earlier, deed = found
        self.assertEqual(len(deed[1]), 1)
        self.assertTrue(apply_deed(earlier, deed) == sheaf)
        self.assertEqual(sheaf.rows(), rows)

    def test_two_equal_rows(self):
        self.check(Sheaf([(0, "a"), (0, "a")]))
        self.check(Sheaf([(-3, "c"), (4, "a"), (2, "b"), (-3, "d"), (4, "a")]))
        self.check(Sheaf([(1, "a")] * 5))

    def test_no_equal_rows(self):
        self.assertIsNone(past_deed(Sheaf([(0, "a")])))
        self.assertIsNone(past_deed(Sheaf([(0, "a"), (0, "b"), (1, "a"), (1, "b")])))

    def test_many_sheaves(self):
        for sheaf in some_sheaves(41, 200, most_sheets=9, span=3):
            self.check(sheaf)

    def test_outcomes_of_deeds(self):
        for sheaf in small_sheaves(4, 3):
            for deed in all_deeds(sheaf, 2):
                after = apply_deed(sheaf, deed, breadth=2)
                self.assertIsNotNone(past_deed(after))
                self.check(after)


if __name__ == "__main__":
    unittest.main()
