import unittest
from random import Random

from tests.helpers import (
    BREADTHS, after, complete_log, error_of, level_at, reasons_by_words, sharpnesses_of, sheaf_of,
    shortest_by_search, small_sheaves, some_log, some_sheaves,
)
from wornsheaf.deeds import replay
from wornsheaf.ends import possible_ends
from wornsheaf.errors import Impossible, InvalidDeed
from wornsheaf.sheaf import Sheaf
from wornsheaf.shortest import (
    crossings, lifts_across, quickest_end, shortest_length, shortest_log,
)

STAIRS = sheaf_of(0, 1, 2)
# Three sheets that have to be lifted far by one.
HIGH = Sheaf([(0, "a"), (0, "b"), (0, "c"), (3, "d")])


def crossings_by_words(sheaf, end, breadth):
    told = sharpnesses_of(sheaf)
    top = max(told)
    found = [len([s for s in told if s < end])]
    for h in range(end + 1, top + 1):
        q = len([s for s in told if s >= h])
        numbers = [0]
        if h < top:
            numbers += [g + 1 - h - len([s for s in told if h <= s <= g]) for g in range(h, top)]
        difference = found[-1] - breadth * q
        quotient = difference // (breadth + 1)
        if quotient * (breadth + 1) < difference:
            quotient += 1
        numbers.append(quotient)
        found.append(max(numbers))
    return found


def lifts_by_words(sheaf, log, height):
    rows = sheaf.rows()
    total = 0
    for deed in log:
        later = after(rows, deed)
        for target in deed[1]:
            if rows[target][0] < height <= later[target][0]:
                total += 1
        rows = later
    return total


def sources_at(sheaf, log, height):
    """Return how many deeds have a source of that sharpness just before them."""
    rows = sheaf.rows()
    total = 0
    for deed in log:
        total += rows[deed[0]][0] == height
        rows = after(rows, deed)
    return total


class TestCrossings(unittest.TestCase):
    def test_examples(self):
        self.assertEqual(crossings(HIGH, 0), [0, 2, 1, 0])
        self.assertEqual(crossings(HIGH, 1), [3, 1, 0])
        self.assertEqual(shortest_length(HIGH, 0), 6)

    def test_breadth(self):
        self.assertEqual(crossings(HIGH, 1, breadth=2), [3, 1, 0])
        self.assertEqual(crossings(HIGH, 2, breadth=3), [3, 0])
        self.assertEqual(crossings(sheaf_of(*[0] * 8, 3), 1, breadth=2), [8, 2, 0])
        self.assertEqual(crossings(sheaf_of(*[0] * 7, 4), 1), [7, 3, 1, 0])

    def test_quotients_below_0_are_rounded_up(self):
        # From 1, 2 and 3 sheets there is a difference of -1, which gives 0.
        self.assertEqual(crossings(sheaf_of(0, 1, 2, 2), 1), [1, 0])
        # -1 divided by 2 is 0 when it is rounded up, and so is -2 by 3.
        self.assertEqual(crossings(sheaf_of(0, 3, 3), 2), [1, 0])
        self.assertEqual(crossings(sheaf_of(0, 3, 3), 2, breadth=2), [1, 0])

    def test_the_end_that_is_the_top(self):
        for sheaf in (sheaf_of(0), sheaf_of(-4, -4, -4), sheaf_of(3, 3)):
            for breadth in BREADTHS:
                self.assertEqual(crossings(sheaf, sheaf.top, breadth=breadth), [0])
                self.assertEqual(shortest_length(sheaf, sheaf.top, breadth=breadth), 0)
                self.assertEqual(shortest_log(sheaf, sheaf.top, breadth=breadth), [])
                self.assertEqual(quickest_end(sheaf, breadth=breadth), (sheaf.top, 0))

    def test_against_the_words(self):
        sheaves = list(small_sheaves(5, 4)) + list(some_sheaves(221, 25))
        sheaves += list(some_sheaves(222, 12, span=60))
        below = 0
        for sheaf in sheaves:
            for breadth in (1, 2, 3):
                for end in possible_ends(sheaf, breadth=breadth):
                    found = crossings(sheaf, end, breadth=breadth)
                    self.assertIsInstance(found, list)
                    self.assertEqual(len(found), sheaf.top - end + 1)
                    self.assertEqual(found, crossings_by_words(sheaf, end, breadth))
                    told = sharpnesses_of(sheaf)
                    steps = range(end + 1, sheaf.top + 1)
                    length = sum(
                        len([s for s in told if s >= h]) + x for h, x in zip(steps, found[1:])
                    )
                    self.assertEqual(shortest_length(sheaf, end, breadth=breadth), length)
                    below += any(x < 0 for x in found)
        self.assertEqual(below, 0)

    def test_ends_that_are_not_possible(self):
        for sheaf in [STAIRS, HIGH, sheaf_of(2, 2)] + list(some_sheaves(223, 15, most_sheets=9)):
            for breadth in (1, 3):
                ends = possible_ends(sheaf, breadth=breadth)
                for end in (ends[0] - 1, ends[-1] + 1, ends[0] - 7, sheaf.top + 5, sheaf.bottom - 3):
                    if end in ends:
                        continue
                    reason = reasons_by_words(sheaf, end, {}, breadth)[0]
                    for ask in (crossings, shortest_length, shortest_log):
                        error = error_of(Impossible, ask, sheaf, end, breadth=breadth)
                        self.assertEqual(error.reason, reason)

    def test_breadth_left_out_is_1(self):
        for ask in (crossings, shortest_length, shortest_log):
            error = error_of(Impossible, ask, HIGH, 2)
            self.assertEqual(error.reason, ("reach", 2))
            error = error_of(Impossible, ask, STAIRS, -1)
            self.assertEqual(error.reason, ("height", -1, 0))
            ask(HIGH, 2, breadth=3)
        self.assertEqual(quickest_end(HIGH), (1, 3))
        self.assertEqual(quickest_end(HIGH, breadth=3), (2, 1))


class TestShortestLog(unittest.TestCase):
    def check(self, sheaf, end, breadth, length):
        log = shortest_log(sheaf, end, breadth=breadth)
        self.assertIsInstance(log, list)
        self.assertTrue(level_at(replay(sheaf, log, breadth=breadth), end))
        self.assertEqual(len(log), length)
        self.assertEqual(shortest_length(sheaf, end, breadth=breadth), length)

    def test_against_search(self):
        for breadth, most_sheets, most_sharpness in [(1, 4, 6), (1, 6, 3), (2, 5, 4), (3, 5, 4)]:
            known = {}
            for sheaf in small_sheaves(most_sheets, most_sharpness):
                fewest = shortest_by_search(sharpnesses_of(sheaf), breadth, known)
                self.assertEqual(sorted(fewest), possible_ends(sheaf, breadth=breadth))
                for end in fewest:
                    self.check(sheaf, end, breadth, fewest[end])

    def test_any_order_of_the_sheets(self):
        chance = Random(224)
        for sheaf in small_sheaves(4, 4):
            rows = sheaf.rows()
            chance.shuffle(rows)
            for end in possible_ends(sheaf):
                self.check(Sheaf(rows), end, 1, shortest_length(sheaf, end))

    def test_forty_sheets(self):
        chance = Random(225)
        for told in [
            list(range(40)), [0] * 20 + list(range(20)), [0] * 39 + [6], [5] * 20 + [0] * 20,
            [chance.randint(-1000, -970) for _ in range(40)], [-1000] * 39 + [1000],
            [0] * 30 + [12] * 5 + [13] * 2 + [20, 20, 25],
        ]:
            chance.shuffle(told)
            sheaf = sheaf_of(*told)
            for breadth in BREADTHS:
                for end in possible_ends(sheaf, breadth=breadth):
                    found = crossings_by_words(sheaf, end, breadth)
                    steps = range(end + 1, sheaf.top + 1)
                    length = sum(
                        len([s for s in told if s >= h]) + x for h, x in zip(steps, found[1:])
                    )
                    self.check(sheaf, end, breadth, length)

    def test_repeated_records(self):
        for sheaf in some_sheaves(226, 30):
            for breadth in (1, 4):
                ends = possible_ends(sheaf, breadth=breadth)
                for end in (ends[0], ends[-1]):
                    length = shortest_length(sheaf, end, breadth=breadth)
                    self.check(sheaf, end, breadth, length)

    def test_every_complete_log_lifts_so_many(self):
        chance = Random(227)
        for sheaf in some_sheaves(228, 60, most_sheets=12, span=6):
            for breadth in (1, 2, 3):
                log, rows = complete_log(sheaf, breadth, chance)
                end = rows[0][0]
                found = crossings(sheaf, end, breadth=breadth)
                told = sharpnesses_of(sheaf)
                for height, number in zip(range(end, sheaf.top + 1), found):
                    lifted = lifts_across(sheaf, log, height, breadth=breadth)
                    self.assertGreaterEqual(lifted, number)
                    if height > end:
                        no_fainter = len([s for s in told if s >= height])
                        self.assertEqual(sources_at(sheaf, log, height), no_fainter + lifted)

    def test_a_shortest_log_lifts_no_more(self):
        for sheaf in some_sheaves(229, 40, most_sheets=15, span=8):
            for breadth in (1, 3):
                for end in possible_ends(sheaf, breadth=breadth):
                    log = shortest_log(sheaf, end, breadth=breadth)
                    found = crossings(sheaf, end, breadth=breadth)
                    for height, number in zip(range(end, sheaf.top + 1), found):
                        if height > end:
                            lifted = lifts_across(sheaf, log, height, breadth=breadth)
                            self.assertEqual(lifted, number)


class TestLiftsAcross(unittest.TestCase):
    def test_several_targets_and_repeats(self):
        wanted = {-1: 0, 0: 0, 1: 2, 2: 2, 3: 2, 4: 0, 5: 0}
        for height, number in wanted.items():
            found = lifts_across(sheaf_of(0, 0, 3, 4), [(3, (0, 1))], height, breadth=2)
            self.assertEqual(found, number)
        # Sheet 0 rises to 1 and then to 4, sheet 1 from 1 to 3, and last no one rises.
        log = [(1, (0,)), (2, (0,)), (0, (1,)), (2, (0,))]
        for height, number in {0: 0, 1: 1, 2: 2, 3: 2, 4: 1, 5: 0, 6: 0}.items():
            self.assertEqual(lifts_across(sheaf_of(0, 2, 5), log, height), number)

    def test_a_target_that_comes_from_the_height_or_ends_below_it(self):
        sheaf = sheaf_of(1, 4)
        wanted = {0: 0, 1: 0, 2: 1, 3: 1, 4: 0}
        for height, number in wanted.items():
            self.assertEqual(lifts_across(sheaf, [(1, (0,))], height), number)
        for height in range(-3, 5):
            self.assertEqual(lifts_across(sheaf_of(1, 2), [(1, (0,))], height), 0)

    def test_no_deed(self):
        self.assertEqual(lifts_across(STAIRS, [], 1), 0)

    def test_against_the_words(self):
        chance = Random(230)
        for sheaf in some_sheaves(231, 60, most_sheets=10, span=8):
            for breadth in (1, 3):
                log, _ = some_log(sheaf, breadth, chance, most=25)
                for height in range(sheaf.bottom - 2, sheaf.top + 3):
                    found = lifts_across(sheaf, log, height, breadth=breadth)
                    self.assertEqual(found, lifts_by_words(sheaf, log, height))

    def test_invalid_deeds(self):
        good = (2, (0,))
        for bad in [(2, (0, 1)), (0, (2,)), (2, (3,)), (3, (0,)), (2, ()), (2, (-1,)), (2, (2,))]:
            for height in (-5, 1, 9):
                for before in ([], [(1, (0,))]):
                    log = before + [bad, good, bad]
                    error = error_of(InvalidDeed, lifts_across, STAIRS, log, height)
                    self.assertEqual(error.position, len(before))
        self.assertEqual(lifts_across(STAIRS, [(2, (0, 1))], 1, breadth=2), 1)


class TestQuickestEnd(unittest.TestCase):
    def test_example(self):
        self.assertEqual(quickest_end(Sheaf([(0, "a"), (1, "b"), (2, "c")])), (1, 1))

    def test_against_search(self):
        known = {}
        for sheaf in small_sheaves(5, 4):
            fewest = shortest_by_search(sharpnesses_of(sheaf), 1, known)
            least = min(fewest.values())
            ends = [end for end in fewest if fewest[end] == least]
            self.assertEqual(quickest_end(sheaf), (max(ends), least))

    def test_the_highest_of_two_ends_with_the_same_length(self):
        told = [0] * 9 + [3, 4]
        self.assertEqual(shortest_by_search(told, 1, {}), {0: 10, 1: 10})
        self.assertEqual(quickest_end(sheaf_of(*told)), (1, 10))
        sheaf = sheaf_of(*[0] * 8, *[2] * 5, 6, 6)
        lengths = [shortest_length(sheaf, end) for end in possible_ends(sheaf)]
        self.assertEqual(lengths, [29, 22, 14, 14])
        self.assertEqual(quickest_end(sheaf), (3, 14))

    def test_an_end_below_the_high_end(self):
        told = [0, 3, 5, 6, 9, 9, 10, 13, 14, 14, 16, 16, 18, 23, 23, 23, 25, 27, 28]
        sheaf = sheaf_of(*told)
        end = possible_ends(sheaf)[-1]
        self.assertEqual([shortest_length(sheaf, end - k) for k in (0, 1, 2)], [19, 18, 25])
        self.assertEqual(quickest_end(sheaf), (end - 1, 18))

    def test_breadths(self):
        for breadth in (2, 3):
            known = {}
            for sheaf in small_sheaves(4, 4):
                fewest = shortest_by_search(sharpnesses_of(sheaf), breadth, known)
                least = min(fewest.values())
                wanted = (max(end for end in fewest if fewest[end] == least), least)
                self.assertEqual(quickest_end(sheaf, breadth=breadth), wanted)

    def test_forty_sheets(self):
        for sheaf in some_sheaves(232, 10, most_sheets=40, span=30):
            lengths = {
                end: shortest_length(sheaf, end, breadth=2)
                for end in possible_ends(sheaf, breadth=2)
            }
            least = min(lengths.values())
            wanted = (max(end for end in lengths if lengths[end] == least), least)
            self.assertEqual(quickest_end(sheaf, breadth=2), wanted)


if __name__ == "__main__":
    unittest.main()
