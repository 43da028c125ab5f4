import unittest

from tests.helpers import (
    BREADTHS, all_deeds, ends_by_search, sharpnesses_of, sheaf_of, small_sheaves, some_sheaves,
)
from wornsheaf.deeds import apply_deed
from wornsheaf.ends import (
    cap, high_end, low_end, low_height, no_sharper, possible_ends, reach, record_reach,
)
from wornsheaf.sheaf import Sheaf

STAIRS = sheaf_of(0, 1, 2)


def low_by_words(sheaf):
    told = sharpnesses_of(sheaf)
    return max(s - len([t for t in told if t < s]) for s in told)


def high_by_words(sheaf, breadth):
    told = sharpnesses_of(sheaf)
    ends = range(min(told) - len(told) - 1, max(told) + 3)
    enough = [
        end for end in ends
        if sum((breadth + 1) ** (s - end) for s in told if s >= end) >= len(told)
    ]
    return max(enough)


def heights_by_words(sheaf):
    """Return the worth of each height from far below the sheaf to below its top."""
    told = sharpnesses_of(sheaf)
    heights = range(min(told) - 50, max(told))
    return {h: h + 1 - len([t for t in told if t <= h]) for h in heights}


def sheaves():
    """Return level sheaves, one sheet, far sharpnesses and forty sheets."""
    return [
        sheaf_of(0), sheaf_of(-1000), sheaf_of(1000), sheaf_of(4, 4, 4), sheaf_of(*[-7] * 40),
        sheaf_of(-1000, 1000), sheaf_of(1000, -1000, -1000), sheaf_of(*[-1000] * 39, 1000),
        sheaf_of(-1000, *[1000] * 39), sheaf_of(*range(40)), sheaf_of(*range(-500, 500, 25)),
        sheaf_of(*[0] * 20, *[1] * 20), sheaf_of(3, 0, 0, 0), sheaf_of(*[0] * 39, 5),
    ] + list(some_sheaves(61, 60)) + list(some_sheaves(62, 60, span=60)) + list(
        some_sheaves(63, 60, most_sheets=7, span=4)
    )


class TestCaps(unittest.TestCase):
    def test_at_above_and_beneath(self):
        for breadth in BREADTHS:
            for sharpness in (-1000, -1, 0, 5, 1000):
                self.assertEqual(cap(sharpness, sharpness, breadth=breadth), 1)
                self.assertEqual(cap(sharpness, sharpness + 1, breadth=breadth), 0)
                self.assertEqual(cap(sharpness, sharpness + 900, breadth=breadth), 0)
                for steps in list(range(1, 70)) + [999, 1000, 2000]:
                    found = cap(sharpness, sharpness - steps, breadth=breadth)
                    self.assertEqual(found, (breadth + 1) ** steps)
                    self.assertIsInstance(found, int)

    def test_breadth_left_out(self):
        self.assertEqual(cap(3, 0), 8)
        self.assertEqual(reach(STAIRS, -1), 2 + 4 + 8)
        self.assertEqual(record_reach(STAIRS, "c", -1), 8)

    def test_example(self):
        self.assertEqual(reach(STAIRS, 1), 3)

    def test_reach(self):
        sheaf = Sheaf([(0, "a"), (2, "b"), (3, "a"), (1, "c"), (2, "b")])
        for breadth in BREADTHS:
            base = breadth + 1
            self.assertEqual(reach(sheaf, 1, breadth=breadth), base ** 2 + 2 * base + 1)
            self.assertEqual(record_reach(sheaf, "a", 1, breadth=breadth), base ** 2)
            self.assertEqual(record_reach(sheaf, "b", 1, breadth=breadth), 2 * base)
            self.assertEqual(record_reach(sheaf, "c", 1, breadth=breadth), 1)
            self.assertEqual(record_reach(sheaf, "a", 0, breadth=breadth), base ** 3 + 1)
            self.assertEqual(reach(sheaf, 3, breadth=breadth), 1)
            self.assertEqual(reach(sheaf, 4, breadth=breadth), 0)
            self.assertEqual(record_reach(sheaf, "c", 2, breadth=breadth), 0)

    def test_record_that_no_sheet_bears(self):
        for record in ("d", "", "A b"):
            self.assertEqual(record_reach(STAIRS, record, -5, breadth=2), 0)

    def test_far_beneath_the_end_is_exact(self):
        sheaf = Sheaf([(1000, "a"), (999, "a"), (-1000, "b")])
        for breadth in BREADTHS:
            base = breadth + 1
            wanted = base ** 2000 + base ** 1999
            self.assertEqual(record_reach(sheaf, "a", -1000, breadth=breadth), wanted)
            self.assertEqual(reach(sheaf, -1000, breadth=breadth), wanted + 1)

    def test_against_the_words(self):
        for sheaf in sheaves():
            for end in (sheaf.bottom - 2, sheaf.bottom, sheaf.top - 2, sheaf.top, sheaf.top + 1):
                for breadth in (1, 4):
                    caps = {record: 0 for record in sheaf.records()}
                    for sharpness, record in sheaf.rows():
                        if sharpness >= end:
                            caps[record] += (breadth + 1) ** (sharpness - end)
                    self.assertEqual(reach(sheaf, end, breadth=breadth), sum(caps.values()))
                    for record, wanted in caps.items():
                        found = record_reach(sheaf, record, end, breadth=breadth)
                        self.assertEqual(found, wanted)


class TestNoSharper(unittest.TestCase):
    def test_counts(self):
        sheaf = sheaf_of(3, -2, 0, 0, 5)
        wanted = {-3: 0, -2: 1, -1: 1, 0: 3, 2: 3, 3: 4, 4: 4, 5: 5, 6: 5, 1000: 5, -1000: 0}
        for height, many in wanted.items():
            self.assertEqual(no_sharper(sheaf, height), many)

    def test_against_the_words(self):
        for sheaf in some_sheaves(64, 30):
            for height in range(sheaf.bottom - 2, sheaf.top + 3):
                told = [s for s in sharpnesses_of(sheaf) if s <= height]
                self.assertEqual(no_sharper(sheaf, height), len(told))


class TestEnds(unittest.TestCase):
    def test_examples(self):
        self.assertEqual(possible_ends(STAIRS), [0, 1])
        self.assertEqual(low_height(sheaf_of(0, 0, 1)), -1)

    def test_ends_of_level_sheaves(self):
        for sheaf in (sheaf_of(4), sheaf_of(4, 4), sheaf_of(*[4] * 40)):
            for breadth in BREADTHS:
                self.assertEqual(possible_ends(sheaf, breadth=breadth), [4])
            self.assertEqual(low_height(sheaf), 3)

    def test_breadth_counts_for_the_high_end_only(self):
        sheaf = sheaf_of(*[0] * 5, 3)
        self.assertEqual(low_end(sheaf), 0)
        self.assertEqual([high_end(sheaf, breadth=b) for b in BREADTHS], [0, 1, 1, 1, 2, 2])
        self.assertEqual(high_end(sheaf), 0)
        self.assertEqual(high_end(STAIRS), 1)
        self.assertEqual(possible_ends(sheaf, breadth=5), [0, 1, 2])
        self.assertEqual(possible_ends(sheaf), [0])

    def test_low_end_by_both_words(self):
        for sheaf in sheaves():
            worths = heights_by_words(sheaf)
            low = low_by_words(sheaf)
            self.assertEqual(low_end(sheaf), low)
            self.assertEqual(low, max(worths.values()))
            self.assertEqual(low_height(sheaf), max(h for h in worths if worths[h] == low))

    def test_high_end_by_its_words(self):
        for sheaf in sheaves():
            for breadth in BREADTHS:
                self.assertEqual(high_end(sheaf, breadth=breadth), high_by_words(sheaf, breadth))

    def test_possible_ends_and_their_bounds(self):
        for sheaf in sheaves():
            low = low_by_words(sheaf)
            self.assertGreaterEqual(low_end(sheaf), sheaf.bottom)
            self.assertGreaterEqual(low_end(sheaf), sheaf.top - len(sheaf) + 1)
            for breadth in BREADTHS:
                high = high_by_words(sheaf, breadth)
                self.assertLessEqual(low_end(sheaf), high_end(sheaf, breadth=breadth))
                self.assertLessEqual(high_end(sheaf, breadth=breadth), sheaf.top)
                ends = possible_ends(sheaf, breadth=breadth)
                self.assertEqual(ends, list(range(low, high + 1)))

    def test_against_a_search_through_all_logs(self):
        for breadth, most_sheets, most_sharpness in [(1, 5, 4), (2, 4, 4), (3, 5, 2)]:
            for sheaf in small_sheaves(most_sheets, most_sharpness):
                ends = ends_by_search(sharpnesses_of(sheaf), breadth)
                self.assertEqual(possible_ends(sheaf, breadth=breadth), ends)

    def test_order_and_records_do_not_matter(self):
        told = Sheaf([(2, "a"), (0, "a"), (5, "b"), (0, "a"), (3, "a")])
        rising = sheaf_of(0, 0, 2, 3, 5)
        for breadth in BREADTHS:
            self.assertEqual(
                possible_ends(told, breadth=breadth), possible_ends(rising, breadth=breadth)
            )
        self.assertEqual(low_height(told), low_height(rising))

    def test_sharpnesses_far_beyond_the_limits(self):
        sheaf = sheaf_of(-999999999, 999999999, 0)
        self.assertEqual(low_end(sheaf), 999999997)
        self.assertEqual(possible_ends(sheaf), [999999997])
        self.assertEqual(low_height(sheaf), 999999998)


class TestWhatDeedsDoToTheEnds(unittest.TestCase):
    def test_no_deed_lowers_the_low_end_or_raises_the_high_end(self):
        for sheaf in small_sheaves(4, 4):
            for deed in all_deeds(sheaf, 3):
                for breadth in range(len(deed[1]), 4):
                    later = apply_deed(sheaf, deed, breadth=breadth)
                    self.assertGreaterEqual(low_end(later), low_end(sheaf))
                    self.assertLessEqual(
                        high_end(later, breadth=breadth), high_end(sheaf, breadth=breadth)
                    )


if __name__ == "__main__":
    unittest.main()
