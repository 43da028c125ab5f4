import unittest
from itertools import combinations
from random import Random

from tests.helpers import (
    BREADTHS, after, cap_by_words, error_of, sharpnesses_of, sheaf_of, small_sheaves, some_sheaves,
)
from wornsheaf.deeds import apply_deed
from wornsheaf.ends import high_end, reach
from wornsheaf.errors import Impossible, InvalidRound
from wornsheaf.rounds import fewest_rounds, play_rounds, round_plan, round_weight
from wornsheaf.sheaf import Sheaf

STAIRS = sheaf_of(0, 1, 2)
SHEAF = sheaf_of(0, 1, 2, 3, 0, 1)


def weight_by_words(sheaf, end, count, breadth):
    return sum(
        (breadth + 1) ** min(count, sharpness - end)
        for sharpness, _ in sheaf.rows() if sharpness >= end
    )


def all_rounds(sheaf, breadth, used=()):
    """Yield all rounds that are allowed; their deeds have rising sources."""
    yield []
    told = sharpnesses_of(sheaf)
    first = max([deed[0] for deed in used], default=-1) + 1
    touched = {index for source, targets in used for index in (source, *targets)}
    for source in range(first, len(told)):
        free = [k for k in range(len(told)) if told[k] < told[source] and k not in touched]
        if source in touched:
            continue
        for many in range(1, breadth + 1):
            for targets in combinations(free, many):
                deed = (source, targets)
                for rest in all_rounds(sheaf, breadth, (*used, deed)):
                    yield [deed] + rest


def states_after_rounds(sheaf, breadth, most):
    """Return for each number of rounds the lists of sharpnesses that they can leave."""
    found = [{tuple(sorted(sharpnesses_of(sheaf)))}]
    for _ in range(most):
        later = set()
        for told in found[-1]:
            state = sheaf_of(*told)
            for deeds in all_rounds(state, breadth):
                left = play_rounds(state, [deeds], breadth=breadth)
                later.add(tuple(sorted(sharpnesses_of(left))))
        found.append(later)
    return found


class TestPlayRounds(unittest.TestCase):
    def test_rounds(self):
        self.assertEqual(play_rounds(SHEAF, []), SHEAF)
        self.assertEqual(play_rounds(SHEAF, [[], []]), SHEAF)
        left = play_rounds(SHEAF, [[(3, (0,)), (2, (1,))], [], [(0, (4,))]])
        self.assertEqual(
            left.rows(), [(1, "d"), (1, "c"), (1, "c"), (2, "d"), (1, "d"), (1, "f")]
        )

    def test_the_order_of_the_deeds_does_not_matter(self):
        deeds = [(3, (0,)), (2, (1,)), (5, (4,))]
        wanted = SHEAF.rows()
        for deed in deeds:
            wanted = after(wanted, deed)
        for order in (deeds, deeds[::-1], deeds[1:] + deeds[:1]):
            self.assertEqual(play_rounds(SHEAF, [order]).rows(), wanted)

    def refused(self, rounds, breadth=1, sheaf=SHEAF):
        return error_of(InvalidRound, play_rounds, sheaf, rounds, breadth=breadth).position

    def test_a_sheet_in_two_deeds(self):
        for deeds in [
            [(3, (0,)), (3, (1,))], [(3, (0,)), (2, (0,))], [(3, (2,)), (2, (0,))],
            [(2, (0,)), (3, (2,))], [(3, (0,)), (3, (0,))],
        ]:
            self.assertEqual(self.refused([deeds]), 0)
            self.assertEqual(self.refused([[], [(5, (4,))], deeds]), 2)
            # Each of the deeds alone would do.
            for deed in deeds:
                play_rounds(SHEAF, [[deed]])
        self.assertEqual(self.refused([[(3, (0, 1)), (2, (1, 4))]], 2), 0)
        play_rounds(SHEAF, [[(3, (0, 1)), (2, (4, 5))]], breadth=2)

    def test_a_sheet_twice_in_one_deed(self):
        for deed in [(3, (3,)), (3, (0, 0)), (3, (0, 3))]:
            self.assertEqual(self.refused([[deed]], 3), 0)

    def test_a_deed_that_only_another_one_would_allow(self):
        # Sheet 0 would be at 2 behind the first deed, and sheet 5 above sheet 3.
        sheaf = sheaf_of(0, 3, 1, 1)
        self.assertEqual(apply_deed(sheaf, (1, (0,))).sharpness_of(0), 2)
        self.assertEqual(self.refused([[(1, (0,)), (0, (2,))]], sheaf=sheaf), 0)
        self.assertEqual(self.refused([[(0, (2,)), (1, (0,))]], sheaf=sheaf), 0)
        self.assertEqual(self.refused([[(1, (0,)), (2, (3,))]], sheaf=sheaf), 0)
        # In a round of its own it is allowed.
        left = play_rounds(sheaf, [[(1, (0,))], [(0, (2,)), (1, (3,))]])
        self.assertEqual(sharpnesses_of(left), [1, 1, 1, 1])

    def test_each_fault_of_a_deed(self):
        for deed in [
            (0, (4,)), (0, (3,)), (3, (6,)), (3, (-1,)), (6, (0,)), (-1, (0,)), (3, ()),
            (3, (1, 0)), (3, (0, 1)),
        ]:
            self.assertEqual(self.refused([[deed]]), 0)
            self.assertEqual(self.refused([[(5, (4,)), deed]]), 0)
            self.assertEqual(self.refused([[], [deed, (5, (4,))], []]), 1)

    def test_the_first_wrong_round(self):
        wrong = [(0, (3,))]
        self.assertEqual(self.refused([[(3, (0,))], wrong, wrong]), 1)
        self.assertEqual(self.refused([[(3, (0,))], [], [(3, (0,))]]), 2)
        self.assertEqual(self.refused([wrong, wrong]), 0)

    def test_breadth(self):
        deeds = [(3, (0, 1, 2)), (5, (4,))]
        self.assertEqual(self.refused([deeds]), 0)
        self.assertEqual(self.refused([deeds], 2), 0)
        left = play_rounds(SHEAF, [deeds], breadth=3)
        self.assertEqual(sharpnesses_of(left), [2, 2, 2, 2, 0, 0])


class TestRoundWeight(unittest.TestCase):
    def test_numbers(self):
        self.assertEqual([round_weight(STAIRS, 0, count) for count in range(4)], [3, 5, 7, 7])
        self.assertEqual([round_weight(STAIRS, 1, count) for count in range(4)], [2, 3, 3, 3])
        self.assertEqual([round_weight(STAIRS, 3, count) for count in range(4)], [0, 0, 0, 0])
        self.assertEqual([round_weight(STAIRS, -2, count) for count in range(6)], [
            3, 6, 12, 4 + 8 + 8, 4 + 8 + 16, 28,
        ])
        self.assertEqual(round_weight(STAIRS, 0, 2, breadth=2), 1 + 3 + 9)

    def test_against_the_words(self):
        for sheaf in list(small_sheaves(4, 3)) + list(some_sheaves(251, 20)):
            for end in range(sheaf.bottom - 2, sheaf.top + 2):
                for count in (0, 1, 2, 5, 40):
                    for breadth in (1, 2, 6):
                        found = round_weight(sheaf, end, count, breadth=breadth)
                        self.assertEqual(found, weight_by_words(sheaf, end, count, breadth))

    def test_many_rounds_give_the_reach(self):
        for sheaf in some_sheaves(252, 20):
            for end in (sheaf.bottom - 5, sheaf.top - 2, sheaf.top):
                self.assertEqual(round_weight(sheaf, end, 2000), reach(sheaf, end))
        self.assertEqual(round_weight(sheaf_of(1000), -1000, 2000, breadth=6), 7 ** 2000)

    def test_no_round_raises_it(self):
        for breadth, sheaves in [(1, small_sheaves(5, 3)), (2, small_sheaves(4, 3))]:
            for sheaf in sheaves:
                for deeds in all_rounds(sheaf, breadth):
                    left = play_rounds(sheaf, [deeds], breadth=breadth)
                    for end in range(sheaf.bottom - 1, sheaf.top + 2):
                        for count in (0, 1, 3):
                            before = round_weight(sheaf, end, count + 1, breadth=breadth)
                            later = round_weight(left, end, count, breadth=breadth)
                            self.assertLessEqual(later, before)


class TestFewestRounds(unittest.TestCase):
    def check(self, sheaf, end, breadth, wanted):
        self.assertEqual(fewest_rounds(sheaf, end, breadth=breadth), wanted)
        rounds = round_plan(sheaf, end, breadth=breadth)
        self.assertIsInstance(rounds, list)
        self.assertTrue(all(isinstance(deeds, list) for deeds in rounds))
        self.assertEqual(len(rounds), wanted)
        left = play_rounds(sheaf, rounds, breadth=breadth)
        self.assertGreaterEqual(left.bottom, end)

    def refused(self, sheaf, end, breadth):
        amount = sum(cap_by_words(s, end, breadth) for s, _ in sheaf.rows())
        for ask in (fewest_rounds, round_plan):
            error = error_of(Impossible, ask, sheaf, end, breadth=breadth)
            self.assertEqual(error.reason, ("reach", amount))

    def test_example(self):
        self.assertEqual(round_plan(Sheaf([(0, "a"), (1, "b"), (2, "c")]), 1), [[(2, (0,))]])

    def test_level_sheaves_and_low_ends(self):
        for sheaf in (sheaf_of(4), sheaf_of(4, 4, 4), sheaf_of(5, 4, 9)):
            for breadth in BREADTHS:
                for end in (4, 3, -900, -1000):
                    self.check(sheaf, end, breadth, 0)
                    self.assertEqual(round_plan(sheaf, end, breadth=breadth), [])

    def test_ends_between_the_bottom_and_the_low_end(self):
        # The low end is 5, but 1 to 4 are reached as well.
        sheaf = sheaf_of(0, 6, 6, 6, 6)
        for end in range(1, 6):
            self.check(sheaf, end, 1, 1)
        self.refused(sheaf, 6, 1)

    def test_doubling(self):
        sheaf = sheaf_of(*[0] * 7, 9)
        for end, rounds in [(6, 3), (5, 3), (1, 3), (0, 0)]:
            self.check(sheaf, end, 1, rounds)
        self.check(sheaf_of(*[0] * 8, 9), 5, 1, 4)
        self.check(sheaf_of(*[0] * 8, 9), 7, 2, 2)
        self.check(sheaf_of(*[0] * 6, 9), 8, 6, 1)
        self.refused(sheaf_of(*[0] * 8, 9), 6, 1)
        self.refused(sheaf_of(*[0] * 7, 9), 8, 6)

    def test_breadth_left_out_is_1(self):
        sheaf = sheaf_of(0, 0, 0, 9)
        self.assertEqual(fewest_rounds(sheaf, 3), 2)
        self.assertEqual(len(round_plan(sheaf, 3)), 2)
        self.assertEqual(round_weight(sheaf, 3, 1), 2)
        self.assertEqual(error_of(Impossible, fewest_rounds, sheaf, 8).reason, ("reach", 2))
        self.assertEqual(error_of(Impossible, round_plan, sheaf, 8).reason, ("reach", 2))
        self.assertEqual(error_of(InvalidRound, play_rounds, sheaf, [[(3, (0, 1))]]).position, 0)

    def test_against_search(self):
        for breadth, most_sheets, most_sharpness in [(1, 4, 3), (1, 6, 2), (2, 4, 3), (2, 5, 2)]:
            for sheaf in small_sheaves(most_sheets, most_sharpness):
                found = states_after_rounds(sheaf, breadth, 3)
                for end in range(-1, sheaf.top + 2):
                    fewest = [k for k in range(4) if any(min(told) >= end for told in found[k])]
                    if fewest:
                        self.check(sheaf, end, breadth, fewest[0])
                    else:
                        self.refused(sheaf, end, breadth)

    def test_up_to_the_high_end(self):
        for sheaf in some_sheaves(253, 40):
            for breadth in (1, 2, 6):
                high = high_end(sheaf, breadth=breadth)
                for end in {high, high - 1, high - 4, sheaf.bottom, sheaf.bottom + 1}:
                    if end <= high:
                        weights = [weight_by_words(sheaf, end, k, breadth) for k in range(45)]
                        wanted = min(k for k in range(45) if weights[k] >= len(sheaf))
                        self.check(sheaf, end, breadth, wanted)
                for end in (high + 1, high + 2, sheaf.top + 1, sheaf.top + 90):
                    self.refused(sheaf, end, breadth)

    def test_forty_sheets(self):
        chance = Random(254)
        for told in [list(range(40)), [0] * 39 + [40], [0] * 20 + [3] * 20, [-1000] * 39 + [1000]]:
            chance.shuffle(told)
            sheaf = sheaf_of(*told)
            for breadth in BREADTHS:
                high = high_end(sheaf, breadth=breadth)
                for end in (high, (high + sheaf.bottom) // 2, sheaf.bottom + 1):
                    weights = [weight_by_words(sheaf, end, k, breadth) for k in range(45)]
                    wanted = min(k for k in range(45) if weights[k] >= 40)
                    self.check(sheaf, end, breadth, wanted)
                self.refused(sheaf, high + 1, breadth)


if __name__ == "__main__":
    unittest.main()
