import inspect
import unittest
from itertools import islice, product

from tests.helpers import (
    cap_by_words, finals, letters, sharpnesses_of, sheaf_of, small_sheaves,
)
from wornsheaf.ends import possible_ends
from wornsheaf.errors import NoOutcome, RepeatedRecord, UnknownRecord
from wornsheaf.outcomes import (
    count_outcomes, count_with, each_outcome, is_outcome, next_outcome, outcome_at, outcome_order,
    place_of,
)
from wornsheaf.sheaf import Sheaf

PAIR = Sheaf([(0, "a"), (0, "b"), (1, "c")])
REPEATED = Sheaf([(0, "c"), (4, "b"), (1, "c"), (2, "a"), (1, "b")])
BIG = sheaf_of(*[(7 * k) % 12 for k in range(24)])


def order_by_words(sheaf):
    told = sharpnesses_of(sheaf)
    return sorted(range(len(told)), key=lambda k: (told[k], k))


def outcomes_by_search(sheaf, end, breadth):
    """Return all outcomes in ascending order, from all complete logs."""
    records = [sheaf.record_of(index) for index in order_by_words(sheaf)]
    told = [dict(shares) for found, shares in finals(sheaf.rows(), breadth) if found == end]
    return sorted([shares.get(record, 0) for record in records] for shares in told)


def is_outcome_by_words(sheaf, end, numbers, breadth):
    told = [sheaf.sharpness_of(index) for index in order_by_words(sheaf)]
    return (
        end in possible_ends(sheaf, breadth=breadth)
        and len(numbers) == len(told) == sum(numbers)
        and all(number >= 0 for number in numbers)
        and all(
            number <= ((breadth + 1) ** (s - end) if s >= end else 0)
            for number, s in zip(numbers, told)
        )
        and all(
            len([s for number, s in zip(numbers, told) if number == 0 and s <= h]) >= h + 1 - end
            for h in range(end, max(told))
        )
    )


class TestRepeatedRecords(unittest.TestCase):
    ASKED = {
        "outcome_order": lambda sheaf: outcome_order(sheaf),
        "is_outcome": lambda sheaf: is_outcome(sheaf, 99, [1], breadth=2),
        "count_outcomes": lambda sheaf: count_outcomes(sheaf, 99),
        "outcome_at": lambda sheaf: outcome_at(sheaf, 99, -1),
        "place_of": lambda sheaf: place_of(sheaf, 99, []),
        "next_outcome": lambda sheaf: next_outcome(sheaf, 99, [-1]),
        "each_outcome": lambda sheaf: list(each_outcome(sheaf, 99)),
        "first of each_outcome": lambda sheaf: next(each_outcome(sheaf, 0)),
        "count_with": lambda sheaf: count_with(sheaf, 0, "nobody"),
    }

    def test_the_first_in_ascending_order_and_ahead_of_all_else(self):
        for sheaf, record in [
            (REPEATED, "b"),
            (Sheaf([(0, "a"), (0, "a")]), "a"),
            (Sheaf([(0, "b"), (0, "b"), (2, "a")]), "b"),
            (Sheaf([(0, "z"), (0, "9"), (1, "z"), (1, "b"), (3, "9"), (3, "b")]), "9"),
            (Sheaf([(0, "a"), (0, "b"), (1, "b"), (1, "b")]), "b"),
        ]:
            for name, ask in self.ASKED.items():
                with self.subTest(name), self.assertRaises(RepeatedRecord) as caught:
                    ask(sheaf)
                self.assertEqual(caught.exception.record, record)

    def test_different_records(self):
        self.assertEqual(outcome_order(Sheaf([(0, "a"), (0, "aa"), (0, "a0")])), [0, 1, 2])


class TestOutcomeOrder(unittest.TestCase):
    def test_order(self):
        self.assertEqual(outcome_order(sheaf_of(0)), [0])
        self.assertEqual(outcome_order(sheaf_of(2, 0, 1)), [1, 2, 0])
        self.assertEqual(outcome_order(sheaf_of(1, 0, 1, 0, -5, 1)), [4, 1, 3, 0, 2, 5])
        self.assertEqual(outcome_order(sheaf_of(3, 3, 3)), [0, 1, 2])
        self.assertEqual(outcome_order(BIG), order_by_words(BIG))

    def test_records_do_not_matter(self):
        self.assertEqual(outcome_order(Sheaf([(1, "a"), (0, "z"), (0, "b")])), [1, 2, 0])


class TestAgainstSearch(unittest.TestCase):
    def test_small_sheaves(self):
        for breadth, most_sharpness in [(1, 4), (2, 4), (3, 3)]:
            for sheaf in small_sheaves(4, most_sharpness):
                for end in range(sheaf.bottom - 1, sheaf.top + 2):
                    self.check(sheaf, end, breadth)

    def test_other_orders_and_below_0(self):
        for told in [(2, 0, 1), (-3, -5, -3, -4), (1, 3, 0, 2), (0, -2, -2, 1), (5, 0, 0, 5)]:
            sheaf = sheaf_of(*told)
            for breadth in (1, 2):
                for end in range(sheaf.bottom - 1, sheaf.top + 2):
                    self.check(sheaf, end, breadth)

    def test_five_sheets(self):
        for sheaf in small_sheaves(5, 2):
            if len(sheaf) == 5:
                for end in possible_ends(sheaf):
                    self.check(sheaf, end, 1)

    def check(self, sheaf, end, breadth):
        wanted = outcomes_by_search(sheaf, end, breadth)
        ask = {"breadth": breadth}
        self.assertEqual(count_outcomes(sheaf, end, **ask), len(wanted))
        self.assertEqual(list(each_outcome(sheaf, end, **ask)), wanted)
        for place, numbers in enumerate(wanted):
            self.assertEqual(outcome_at(sheaf, end, place, **ask), numbers)
            self.assertEqual(place_of(sheaf, end, numbers, **ask), place)
            later = wanted[place + 1] if place + 1 < len(wanted) else None
            self.assertEqual(next_outcome(sheaf, end, numbers, **ask), later)
            self.assertIs(is_outcome(sheaf, end, numbers, **ask), True)
        for place in (-1, -len(wanted), len(wanted), len(wanted) + 1, 10 ** 30):
            if not 0 <= place < len(wanted):
                with self.assertRaises(NoOutcome):
                    outcome_at(sheaf, end, place, **ask)
        order = order_by_words(sheaf)
        for record in sheaf.records():
            at = order.index(sheaf.sheets_of(record)[0])
            borne = len([numbers for numbers in wanted if numbers[at] > 0])
            self.assertEqual(count_with(sheaf, end, record, **ask), borne)

    def test_every_list_of_numbers(self):
        for breadth in (1, 2):
            for sheaf in small_sheaves(3, 3):
                for end in range(-1, 5):
                    there = outcomes_by_search(sheaf, end, breadth)
                    for numbers in product(range(-1, 5), repeat=len(sheaf)):
                        told = list(numbers)
                        found = is_outcome(sheaf, end, told, breadth=breadth)
                        self.assertIs(found, told in there)
                        self.assertEqual(found, is_outcome_by_words(sheaf, end, told, breadth))


class TestOutcomes(unittest.TestCase):
    def test_examples(self):
        self.assertEqual(count_outcomes(PAIR, 0), 2)
        self.assertEqual(outcome_at(PAIR, 0, 1), [1, 0, 2])

    def test_breadth_left_out_is_1(self):
        sheaf = sheaf_of(0, 0, 1)
        self.assertEqual(count_outcomes(sheaf, 0, breadth=2), 3)
        self.assertEqual(list(each_outcome(sheaf, 0)), [[0, 1, 2], [1, 0, 2]])
        self.assertEqual(outcome_at(sheaf, 0, 0), [0, 1, 2])
        self.assertEqual(outcome_at(sheaf, 0, 0, breadth=2), [0, 0, 3])
        self.assertIs(is_outcome(sheaf, 0, [0, 0, 3]), False)
        self.assertIs(is_outcome(sheaf, 0, [0, 1, 2]), True)
        self.assertEqual(place_of(sheaf, 0, [0, 1, 2]), 0)
        self.assertEqual(place_of(sheaf, 0, [0, 1, 2], breadth=2), 1)
        self.assertEqual(next_outcome(sheaf, 0, [0, 1, 2]), [1, 0, 2])
        self.assertEqual(count_with(sheaf, 0, "a"), 1)
        self.assertEqual(count_with(sheaf, 0, "c"), 2)
        self.assertEqual(count_with(sheaf, 0, "b", breadth=2), 1)

    def test_level_sheaves(self):
        for told in ([4], [4, 4], [4] * 24):
            sheaf = sheaf_of(*told)
            ones = [1] * len(told)
            self.assertEqual(count_outcomes(sheaf, 4, breadth=3), 1)
            self.assertEqual(outcome_at(sheaf, 4, 0), ones)
            self.assertIsNone(next_outcome(sheaf, 4, ones))
            self.assertEqual(count_outcomes(sheaf, 3), 0)
            self.assertEqual(count_outcomes(sheaf, 5), 0)

    def test_ends_that_are_not_possible(self):
        for end in (-1000, -2, -1, 1, 2, 1000):
            self.assertEqual(count_outcomes(PAIR, end, breadth=2), 0)
            self.assertEqual(list(each_outcome(PAIR, end)), [])
            self.assertEqual(count_with(PAIR, end, "a"), 0)
            self.assertIs(is_outcome(PAIR, end, [1, 0, 2]), False)
            for ask in (
                lambda: outcome_at(PAIR, end, 0),
                lambda: place_of(PAIR, end, [1, 0, 2]),
                lambda: next_outcome(PAIR, end, [1, 0, 2]),
            ):
                with self.assertRaises(NoOutcome):
                    ask()

    def test_lists_that_are_no_outcomes(self):
        for numbers in (
            [], [3], [1, 2], [1, 0, 2, 0], [0, 1, 2, 0], [-1, 2, 2], [1, -1, 3], [0, 0, 3],
            [1, 1, 1], [2, 0, 1], [0, 1, 1], [0, 1, 3], [1000, -999, 2], [0, 0, 0],
        ):
            self.assertIs(is_outcome(PAIR, 0, numbers), False)
            with self.assertRaises(NoOutcome):
                place_of(PAIR, 0, numbers)
            with self.assertRaises(NoOutcome):
                next_outcome(PAIR, 0, numbers)

    def test_a_number_below_0_alone_is_wrong(self):
        sheaf = sheaf_of(0, 0, 0, 2, 2)
        self.assertIs(is_outcome(sheaf, 0, [0, 0, 1, 2, 2]), True)
        for numbers in ([0, 0, -1, 2, 4], [0, -1, 0, 4, 2], [-1, 0, 0, 3, 3]):
            self.assertIs(is_outcome(sheaf, 0, numbers), False)
            with self.assertRaises(NoOutcome):
                place_of(sheaf, 0, numbers)

    def test_unknown_record(self):
        for end in (0, 99):
            with self.assertRaises(UnknownRecord) as caught:
                count_with(PAIR, end, "x", breadth=2)
            self.assertEqual(caught.exception.record, "x")

    def test_each_outcome_is_a_generator(self):
        self.assertTrue(inspect.isgeneratorfunction(each_outcome))

    def test_far_sharpnesses(self):
        sheaf = sheaf_of(-1000, 1000, 1000)
        self.assertEqual(list(each_outcome(sheaf, 999)), [[0, 1, 2], [0, 2, 1]])
        self.assertEqual(count_outcomes(sheaf, -1000, breadth=6), 0)


class TestTwentyFourSheets(unittest.TestCase):
    def test_first_last_and_beyond(self):
        for breadth in (1, 6):
            for end in possible_ends(BIG, breadth=breadth):
                self.check(BIG, end, breadth)

    def check(self, sheaf, end, breadth):
        ask = {"breadth": breadth}
        count = count_outcomes(sheaf, end, **ask)
        self.assertGreater(count, 0)
        for place in (0, 1, count // 3, count // 2, count - 2, count - 1):
            if 0 <= place < count:
                numbers = outcome_at(sheaf, end, place, **ask)
                self.assertTrue(is_outcome_by_words(sheaf, end, numbers, breadth))
                self.assertIs(is_outcome(sheaf, end, numbers, **ask), True)
                self.assertEqual(place_of(sheaf, end, numbers, **ask), place)
                later = next_outcome(sheaf, end, numbers, **ask)
                if place + 1 < count:
                    self.assertGreater(later, numbers)
                    self.assertEqual(place_of(sheaf, end, later, **ask), place + 1)
                else:
                    self.assertIsNone(later)
        for place in (count, count + 1, -1):
            with self.assertRaises(NoOutcome):
                outcome_at(sheaf, end, place, **ask)

    def test_the_first_outcomes_are_in_order(self):
        for end in possible_ends(BIG, breadth=2):
            told = list(islice(each_outcome(BIG, end, breadth=2), 200))
            self.assertEqual(told, sorted(told))
            self.assertEqual(len({tuple(numbers) for numbers in told}), len(told))
            self.assertTrue(all(is_outcome_by_words(BIG, end, told[k], 2) for k in (0, -1)))

    def test_against_all_lists_with_such_caps(self):
        # At the highest end of breadth 1 there are few enough to try them all.
        end = possible_ends(BIG)[-1]
        order = order_by_words(BIG)
        caps = [cap_by_words(BIG.sharpness_of(index), end, 1) for index in order]
        wanted = [
            list(numbers) for numbers in product(*[range(most + 1) for most in caps])
            if sum(numbers) == 24 and is_outcome_by_words(BIG, end, numbers, 1)
        ]
        self.assertGreater(len(wanted), 500)
        self.assertEqual(list(each_outcome(BIG, end)), wanted)
        self.assertEqual(count_outcomes(BIG, end), len(wanted))
        for place, numbers in list(enumerate(wanted))[::50]:
            self.assertEqual(outcome_at(BIG, end, place), numbers)
            self.assertEqual(place_of(BIG, end, numbers), place)
        for record in letters(24)[::5]:
            at = order.index(BIG.sheets_of(record)[0])
            borne = len([numbers for numbers in wanted if numbers[at] > 0])
            self.assertEqual(count_with(BIG, end, record), borne)


if __name__ == "__main__":
    unittest.main()
