import unittest
from itertools import combinations, product
from random import Random

from tests.helpers import sheaf_of
from wornsheaf.boxes import (
    box_ends, drops, high_ends, kinds_with_drop, list_with_end, list_with_high, list_with_low,
    list_without_end, low_ends, sure_ends,
)
from wornsheaf.ends import high_end, low_end, possible_ends
from wornsheaf.errors import InvalidBox

ASKED = [
    lambda box: box_ends(box),
    lambda box: box_ends(box, breadth=3),
    lambda box: sure_ends(box),
    lambda box: list_with_end(box, 0),
    lambda box: list_with_end(box, -999, breadth=2),
    lambda box: list_without_end(box, 0),
    lambda box: list_without_end(box, 999, breadth=2),
    lambda box: low_ends(box),
    lambda box: high_ends(box),
    lambda box: list_with_low(box, 0),
    lambda box: list_with_high(box, 0),
    lambda box: list_with_high(box, 999, breadth=2),
]
SIDES = [(0, 0), (0, 1), (1, 1), (0, 3), (2, 3), (-1, 2)]


def small_boxes():
    """Return all small boxes of the sides, in one order, and some in another."""
    boxes = []
    for count in (1, 2, 3):
        for box in product(SIDES, repeat=count):
            if list(box) == sorted(box) or count == 2:
                boxes.append(list(box))
    return boxes + [[(0, 2), (4, 4), (1, 3), (0, 1)], [(3, 5), (0, 0), (0, 0), (0, 4)]]


def lists_that_fit(box):
    return [list(told) for told in product(*[range(low, high + 1) for low, high in box])]


def fits(told, box):
    return len(told) == len(box) and all(
        low <= sharpness <= high for sharpness, (low, high) in zip(told, box)
    )


def random_boxes(seed, many, count):
    chance = Random(seed)
    boxes = []
    for _ in range(many):
        lows = [chance.randint(-1000, -980) for _ in range(count)]
        boxes.append([(low, low + chance.randint(0, 9)) for low in lows])
    return boxes


class TestInvalidBoxes(unittest.TestCase):
    def refused(self, box, index):
        for ask in ASKED:
            with self.assertRaises(InvalidBox) as caught:
                ask(box)
            self.assertEqual(caught.exception.index, index)

    def test_empty_box(self):
        self.refused([], 0)

    def test_first_faulty_tuple(self):
        self.refused([(1, 0)], 0)
        self.refused([(0, 0), (5, 4)], 1)
        self.refused([(0, 0), (1, 2), (3, -3), (0, 9), (9, 0)], 2)
        self.refused([(0, 1)] * 60 + [(1, 0)], 60)

    def test_equal_low_and_high_are_right(self):
        for ask in ASKED:
            ask([(0, 0)])


class TestSmallBoxes(unittest.TestCase):
    def test_ends(self):
        for box in small_boxes():
            fitting = lists_that_fit(box)
            for breadth in (1, 2):
                told = [set(possible_ends(sheaf_of(*one), breadth=breadth)) for one in fitting]
                some = sorted(set.union(*told))
                every = sorted(set.intersection(*told))
                self.assertEqual(box_ends(box, breadth=breadth), some)
                self.assertEqual(sure_ends(box, breadth=breadth), every)
                for end in range(some[0] - 2, some[-1] + 3):
                    self.check_list_with_end(box, end, breadth, end in some)
                    self.check_list_without_end(box, end, breadth, end not in every)

    def check_list_with_end(self, box, end, breadth, there):
        found = list_with_end(box, end, breadth=breadth)
        self.assertEqual(found is not None, there)
        if there:
            self.assertTrue(fits(found, box))
            self.assertIn(end, possible_ends(sheaf_of(*found), breadth=breadth))

    def check_list_without_end(self, box, end, breadth, there):
        found = list_without_end(box, end, breadth=breadth)
        self.assertEqual(found is not None, there)
        if there:
            self.assertTrue(fits(found, box))
            self.assertNotIn(end, possible_ends(sheaf_of(*found), breadth=breadth))

    def test_low_ends(self):
        for box in small_boxes():
            lows = sorted({low_end(sheaf_of(*told)) for told in lists_that_fit(box)})
            self.assertEqual(low_ends(box), lows)
            for low in range(lows[0] - 2, lows[-1] + 3):
                found = list_with_low(box, low)
                self.assertEqual(found is not None, low in lows)
                if found is not None:
                    self.assertTrue(fits(found, box))
                    self.assertEqual(low_end(sheaf_of(*found)), low)

    def test_high_ends(self):
        for box in small_boxes():
            for breadth in (1, 2, 3):
                fitting = lists_that_fit(box)
                highs = sorted({high_end(sheaf_of(*told), breadth=breadth) for told in fitting})
                self.assertEqual(high_ends(box, breadth=breadth), highs)
                for high in range(highs[0] - 2, highs[-1] + 3):
                    found = list_with_high(box, high, breadth=breadth)
                    self.assertEqual(found is not None, high in highs)
                    if found is not None:
                        self.assertTrue(fits(found, box))
                        self.assertEqual(high_end(sheaf_of(*found), breadth=breadth), high)


class TestBoxes(unittest.TestCase):
    def test_examples(self):
        self.assertEqual(box_ends([(0, 0), (1, 2)]), [0, 1])
        self.assertEqual(sure_ends([(0, 0), (1, 2)]), [])

    def test_breadth_left_out_is_1(self):
        # The top alone reaches 2, 4 or 8 sheets at the end 1 or 0, for breadth 2
        # it reaches 3, 9 or 27.
        box = [(0, 0)] * 5 + [(2, 3)]
        self.assertEqual(box_ends(box), [0])
        self.assertEqual(box_ends(box, breadth=2), [0, 1])
        self.assertEqual(sure_ends(box), [0])
        self.assertEqual(sure_ends(box, breadth=6), [0, 1])
        self.assertEqual(high_ends(box), [0])
        self.assertEqual(high_ends(box, breadth=2), [0, 1])
        self.assertIsNone(list_with_end(box, 1))
        self.assertEqual(list_with_end(box, 1, breadth=2), [0] * 5 + [3])
        self.assertIsNone(list_with_high(box, 1))
        self.assertEqual(list_with_high(box, 1, breadth=2), [0] * 5 + [3])
        self.assertEqual(list_without_end(box, 1), [0] * 5 + [2])
        self.assertIsNone(list_without_end(box, 1, breadth=6))
        closed = [(0, 0)] * 5 + [(3, 3)]
        self.assertEqual(sure_ends(closed), [0])
        self.assertEqual(sure_ends(closed, breadth=2), [0, 1])
        self.assertEqual(list_without_end(closed, 1), [0] * 5 + [3])
        self.assertIsNone(list_without_end(closed, 1, breadth=2))

    def test_boxes_of_equal_tuples(self):
        for told in [[4], [0, 0], [0, 1, 2], [5, -3, 2, 2]]:
            box = [(sharpness, sharpness) for sharpness in told]
            sheaf = sheaf_of(*told)
            ends = possible_ends(sheaf)
            self.assertEqual(box_ends(box), ends)
            self.assertEqual(sure_ends(box), ends)
            self.assertEqual(low_ends(box), [low_end(sheaf)])
            self.assertEqual(high_ends(box), [high_end(sheaf)])
            for end in ends:
                self.assertEqual(list_with_end(box, end), told)
                self.assertIsNone(list_without_end(box, end))
            self.assertIsNone(list_with_end(box, ends[0] - 1))
            self.assertEqual(list_without_end(box, ends[-1] + 1), told)
            self.assertEqual(list_with_low(box, ends[0]), told)
            self.assertEqual(list_with_high(box, ends[-1]), told)
            self.assertIsNone(list_with_low(box, ends[0] + 1))
            self.assertIsNone(list_with_high(box, ends[-1] - 1))

    def test_more_items_than_forty(self):
        for box in random_boxes(81, 6, 60) + random_boxes(82, 1, 400):
            self.check_every_end(box, 2)

    def test_two_thousand_items(self):
        box = [(k - 1000, k - 995) for k in range(2000)]
        self.assertEqual(low_ends(box), list(range(-1000, -994)))
        self.assertEqual(low_end(sheaf_of(*list_with_low(box, -998))), -998)
        high = high_ends(box)[1]
        self.assertEqual(high_end(sheaf_of(*list_with_high(box, high))), high)
        self.check_found(list_with_end(box, high), box, high, 1)

    def check_every_end(self, box, breadth):
        lows = sheaf_of(*[low for low, _ in box])
        highs = sheaf_of(*[high for _, high in box])
        first, last = low_end(lows), high_end(highs, breadth=breadth)
        self.assertEqual(box_ends(box, breadth=breadth), list(range(first, last + 1)))
        sure = range(low_end(highs), high_end(lows, breadth=breadth) + 1)
        self.assertEqual(sure_ends(box, breadth=breadth), list(sure))
        for end in range(first, last + 1):
            self.check_found(list_with_end(box, end, breadth=breadth), box, end, breadth)
            found = list_without_end(box, end, breadth=breadth)
            self.assertEqual(found is None, end in sure)
            if found is not None:
                self.assertTrue(fits(found, box))
                self.assertNotIn(end, possible_ends(sheaf_of(*found), breadth=breadth))
        for low in range(first, low_end(highs) + 1):
            self.assertEqual(low_end(sheaf_of(*list_with_low(box, low))), low)
        for high in range(high_end(lows, breadth=breadth), last + 1):
            found = list_with_high(box, high, breadth=breadth)
            self.assertTrue(fits(found, box))
            self.assertEqual(high_end(sheaf_of(*found), breadth=breadth), high)

    def check_found(self, found, box, end, breadth):
        self.assertTrue(fits(found, box))
        self.assertIn(end, possible_ends(sheaf_of(*found), breadth=breadth))

    def test_wide_box(self):
        box = [(-1000, 1000)] * 3
        self.assertEqual(box_ends(box), list(range(-1000, 1001)))
        self.assertEqual(sure_ends(box), [])
        for end in (-1000, -1, 0, 999, 1000):
            self.check_found(list_with_end(box, end), box, end, 1)
            self.assertEqual(low_end(sheaf_of(*list_with_low(box, end))), end)
            self.assertEqual(high_end(sheaf_of(*list_with_high(box, end))), end)
            self.assertIsNotNone(list_without_end(box, end))


def drop_of(counts, kinds):
    """Return the drop by its words."""
    told = [sharpness for many, sharpness in zip(counts, kinds) for _ in range(many)]
    return max(told) - max(s - len([t for t in told if t < s]) for s in told)


def small_counts():
    return [list(told) for many in (1, 2, 3, 4) for told in product((1, 2, 3), repeat=many)]


class TestDrops(unittest.TestCase):
    def test_example(self):
        self.assertEqual(drops([2, 1]), [1, 2])

    def test_one_kind(self):
        for many in (1, 2, 40):
            self.assertEqual(drops([many]), [0])
            self.assertEqual(kinds_with_drop([many], 0), [0])
            for drop in (-1, 1, many):
                self.assertIsNone(kinds_with_drop([many], drop))

    def test_against_all_sheaves_with_the_counts(self):
        for counts in small_counts():
            # A kind that is more than all sheets below the next tells nothing new.
            below = range(-sum(counts) - 2, 0)
            found = {
                drop_of(counts, kinds + (0,)) for kinds in combinations(below, len(counts) - 1)
            }
            self.assertEqual(drops(counts), sorted(found))

    def test_kinds_with_drop(self):
        for counts in small_counts() + [[1] * 40, [20, 20], [13, 1, 1, 25], [1, 38, 1]]:
            there = drops(counts)
            for drop in range(there[0] - 2, there[-1] + 3):
                kinds = kinds_with_drop(counts, drop)
                self.assertEqual(kinds is not None, drop in there)
                if kinds is not None:
                    self.assertEqual(len(kinds), len(counts))
                    self.assertEqual(kinds, sorted(set(kinds)))
                    self.assertEqual(kinds[-1], 0)
                    self.assertEqual(drop_of(counts, kinds), drop)


if __name__ == "__main__":
    unittest.main()
