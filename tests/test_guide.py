import unittest
from random import Random

from tests.helpers import (
    all_demands, error_of, level_at, many_picks, meets, reasons_by_words, shares_at,
    shares_of_rows, sheaf_of, small_record_sheaves, small_sheaves, some_log, some_sheaves,
)
from wornsheaf.deeds import apply_deed, each_state, replay, single_deeds
from wornsheaf.demands import can_meet
from wornsheaf.ends import possible_ends
from wornsheaf.errors import Impossible, InvalidDeed, InvalidDemands
from wornsheaf.guide import guided_log, safe_deeds, spoiled_at
from wornsheaf.sheaf import Sheaf

STAIRS = sheaf_of(0, 1, 2)
ALL = {"c": 3}


def can_by_search(sheaf, end, demands):
    return any(meets(shares, demands) for shares in shares_at(sheaf, end, 1))


def cases():
    """Yield small sheaves with ends and demands, those that cannot be met too."""
    for sheaf in small_sheaves(4, 3):
        records = sheaf.records()[-2:]
        for end in range(sheaf.bottom - 1, sheaf.top + 2):
            for demands in all_demands(records, 2):
                yield sheaf, end, demands
    for sheaf in small_record_sheaves(3, 3):
        for end in range(0, sheaf.top + 1):
            for demands in all_demands("ab", 2):
                yield sheaf, end, demands


class TestSafeDeeds(unittest.TestCase):
    def test_example(self):
        sheaf = Sheaf([(0, "a"), (1, "b"), (2, "c")])
        self.assertEqual(safe_deeds(sheaf, 0, {"c": 3}), [(1, (0,)), (2, (1,))])

    def test_against_search(self):
        for sheaf, end, demands in cases():
            wanted = [
                deed for deed in single_deeds(sheaf)
                if can_by_search(apply_deed(sheaf, deed), end, demands)
            ]
            found = safe_deeds(sheaf, end, demands)
            self.assertIsInstance(found, list)
            self.assertEqual(found, wanted)
            if can_by_search(sheaf, end, demands):
                self.assertTrue(found or sheaf.is_level())
            else:
                self.assertEqual(found, [])

    def test_level_sheaves(self):
        for sheaf in (sheaf_of(2), sheaf_of(2, 2)):
            for end in (1, 2, 3):
                self.assertEqual(safe_deeds(sheaf, end, {"a": 1}), [])

    def test_ascending_with_sources_and_targets_of_two_digits(self):
        sheaf = sheaf_of(*[0] * 11, 1, 3, 3, 2, 4)
        found = safe_deeds(sheaf, 1, {"p": 2})
        self.assertEqual(found, sorted(found))
        wanted = [
            deed for deed in single_deeds(sheaf)
            if can_meet(apply_deed(sheaf, deed), 1, {"p": 2})
        ]
        self.assertEqual(found, wanted)
        self.assertGreater(len(found), 40)

    def test_deeds_with_one_target_for_breadth_1(self):
        # Only deeds with two targets could lift both sheets to 3.
        sheaf = sheaf_of(0, 0, 4)
        self.assertEqual(safe_deeds(sheaf, 3, {}), [])
        self.assertEqual(safe_deeds(sheaf, 2, {}), [(2, (0,)), (2, (1,))])

    def test_refused_demands(self):
        for sheaf in (STAIRS, sheaf_of(1, 1)):
            error = error_of(InvalidDemands, safe_deeds, sheaf, 0, {"z": -1, "b": -2, "a": 0})
            self.assertEqual(error.record, "b")


class TestSpoiledAt(unittest.TestCase):
    def test_example(self):
        sheaf = Sheaf([(0, "a"), (1, "b"), (2, "c")])
        self.assertEqual(spoiled_at(sheaf, [(2, (0,))], 0, {"c": 3}), 0)

    def test_before_within_and_never(self):
        self.assertEqual(spoiled_at(STAIRS, [], 0, {"b": 1}), -1)
        self.assertEqual(spoiled_at(STAIRS, [(1, (0,))], 0, {"b": 1}), -1)
        self.assertEqual(spoiled_at(STAIRS, [(1, (0,)), (2, (1,))], 3, {}), -1)
        self.assertIsNone(spoiled_at(STAIRS, [], 0, ALL))
        self.assertIsNone(spoiled_at(STAIRS, [(1, (0,))], 0, ALL))
        whole = [(1, (0,)), (2, (1,)), (2, (0,)), (1, (0,))]
        self.assertEqual(spoiled_at(STAIRS, whole, 0, {"c": 3}), None)
        self.assertEqual(spoiled_at(STAIRS, whole, 1, {}), 0)
        self.assertEqual(spoiled_at(STAIRS, [(1, (0,)), (2, (0,)), (0, (1,))], 1, {"b": 1}), 0)
        log = [(2, (0,)), (3, (1,)), (1, (0,)), (3, (2,))]
        self.assertEqual(spoiled_at(sheaf_of(0, 0, 1, 2), log, 0, {"c": 1}), 3)
        self.assertIsNone(spoiled_at(sheaf_of(0, 0, 1, 2), log[:3], 0, {"c": 1}))
        self.assertIsNone(spoiled_at(sheaf_of(4, 4), [], 4, {"a": 1}))
        self.assertEqual(spoiled_at(sheaf_of(4, 4), [], 3, {}), -1)

    def test_against_search(self):
        chance = Random(271)
        found = {}
        for sheaf, end, demands in cases():
            log, _ = some_log(sheaf, 1, chance, most=6)
            states = list(each_state(sheaf, log))
            good = [can_by_search(state, end, demands) for state in states]
            # What cannot be met is not met later.
            self.assertEqual(good, sorted(good, reverse=True))
            wanted = good.index(False) - 1 if False in good else None
            found[wanted] = found.get(wanted, 0) + 1
            self.assertEqual(spoiled_at(sheaf, log, end, demands), wanted)
        self.assertTrue({-1, 0, 1, None} <= set(found))

    def test_demands_before_deeds_before_everything_else(self):
        wrong = [(1, (0,)), (0, (2,))]
        bad = {"c": -1, "b": 1}
        self.assertEqual(error_of(InvalidDemands, spoiled_at, STAIRS, wrong, 0, bad).record, "c")
        self.assertEqual(error_of(InvalidDemands, spoiled_at, STAIRS, [], 0, bad).record, "c")
        # Not possible from the start, or spoiled by a deed before the wrong one.
        for demands in ({"b": 1}, {"z": 9}, {}):
            error = error_of(InvalidDeed, spoiled_at, STAIRS, wrong, 0, demands)
            self.assertEqual(error.position, 1)
        error = error_of(InvalidDeed, spoiled_at, STAIRS, [(2, (0,)), (2, (0,))], 0, ALL)
        self.assertEqual(error.position, 1)

    def test_each_fault_of_a_deed(self):
        for deed in [(0, (1,)), (2, ()), (2, (0, 1)), (2, (3,)), (-1, (0,)), (2, (2,)), (1, (1,))]:
            error = error_of(InvalidDeed, spoiled_at, STAIRS, [(1, (0,)), deed], 0, ALL)
            self.assertEqual(error.position, 1)


class TestGuidedLog(unittest.TestCase):
    def check(self, sheaf, end, demands, picks):
        log = guided_log(sheaf, end, demands, picks)
        self.assertIsInstance(log, list)
        left = replay(sheaf, log)
        self.assertTrue(level_at(left, end))
        self.assertTrue(meets(shares_of_rows(left.rows()), demands))
        self.assertIsNone(spoiled_at(sheaf, log, end, demands))
        for place, (state, deed) in enumerate(zip(each_state(sheaf, log), log)):
            safe = safe_deeds(state, end, demands)
            pick = picks[place] if place < len(picks) else 0
            self.assertEqual(deed, safe[pick % len(safe)])

    def test_picks(self):
        self.assertEqual(guided_log(STAIRS, 0, ALL, []), guided_log(STAIRS, 0, ALL, [0, 0, 2, 0]))
        self.assertEqual(guided_log(STAIRS, 0, ALL, [0])[0], (1, (0,)))
        self.assertEqual(guided_log(STAIRS, 0, ALL, [1])[0], (2, (1,)))
        self.assertEqual(guided_log(STAIRS, 0, ALL, [1000, 0])[0], (1, (0,)))
        self.assertEqual(guided_log(STAIRS, 0, ALL, [999])[0], (2, (1,)))
        self.assertEqual(guided_log(STAIRS, 1, {"b": 1}, [7] * 9), [(2, (0,))])
        self.assertEqual(guided_log(sheaf_of(5, 5), 5, {"a": 1}, [3]), [])

    def test_all_small_sheaves(self):
        chance = Random(272)
        refused = 0
        for sheaf, end, demands in cases():
            picks = many_picks(chance, chance.randint(0, 12))
            reasons = reasons_by_words(sheaf, end, demands, 1)
            if reasons:
                refused += 1
                error = error_of(Impossible, guided_log, sheaf, end, demands, picks)
                self.assertEqual(error.reason, reasons[0])
            elif chance.random() < 0.3:
                self.check(sheaf, end, demands, picks)
        self.assertGreater(refused, 100)

    def test_eight_sheets(self):
        chance = Random(273)
        for sheaf in some_sheaves(274, 6, most_sheets=8, span=7):
            ends = possible_ends(sheaf)
            shares = shares_of_rows(replay(sheaf, guided_log(sheaf, ends[0], {}, [5, 3])).rows())
            self.check(sheaf, ends[0], shares, many_picks(chance, 40))
            self.check(sheaf, ends[-1], {}, many_picks(chance, 5))

    def test_refused_demands(self):
        error = error_of(InvalidDemands, guided_log, STAIRS, 9, {"b": -1, "a": -1}, [])
        self.assertEqual(error.record, "a")
        error = error_of(Impossible, guided_log, STAIRS, 0, {"b": 1}, [1])
        self.assertEqual(error.reason, ("height", 1, 1))


if __name__ == "__main__":
    unittest.main()
