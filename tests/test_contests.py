import unittest
from itertools import combinations, permutations
from random import Random

from tests.helpers import (
    error_of, finals, level_at, many_picks, sharpnesses_of, sheaf_of, small_record_sheaves,
    small_sheaves, some_sheaves,
)
from wornsheaf.contests import (
    Contest, LowSide, Picker, Warden, can_save, dearest_saved, play,
)
from wornsheaf.deeds import apply_deed, is_complete, replay
from wornsheaf.ends import low_end
from wornsheaf.errors import UnknownRecord, WrongMove
from wornsheaf.keeping import dearest_kept
from wornsheaf.sheaf import Sheaf

STAIRS = sheaf_of(0, 1, 2)
HALVES = ("source", "target")


def pairs_of(sheaf):
    """Return all pairs of a source and a target that may be named together."""
    told = sharpnesses_of(sheaf)
    indexes = range(len(told))
    return [(a, b) for a in indexes for b in indexes if told[b] < told[a]]


def turns(sheaf, side, half, first):
    """Return the deeds to which a side leads, for all answers of the other side."""
    mine = HALVES.index(half)
    pairs = pairs_of(sheaf)
    if half == first:
        index = side(sheaf, None)
        return [pair for pair in pairs if pair[mine] == index]
    found = []
    for named in {pair[1 - mine] for pair in pairs}:
        pair = (named, side(sheaf, named))
        found.append(pair if half == "target" else pair[::-1])
    return found


def always(sheaf, side, half, first, is_good, known):
    """Return whether each contest that the side plays ends with a good sheaf."""
    key = tuple(sheaf.rows())
    if key not in known:
        if sheaf.is_level():
            known[key] = is_good(sheaf)
        else:
            found = turns(sheaf, side, half, first)
            known[key] = bool(found) and all(
                pair in pairs_of(sheaf)
                and always(apply_deed(sheaf, (pair[0], (pair[1],))), side, half, first, is_good, known)
                for pair in found
            )
    return known[key]


def can_force(rows, kept, end, first, known):
    """Return whether some warden keeps the list, by trying everything."""
    state = tuple(sorted(rows))
    if state not in known:
        sheaf = Sheaf(list(state))
        pairs = pairs_of(sheaf)
        if not pairs:
            known[state] = sheaf.top == end and set(kept) <= set(sheaf.records())
        else:
            good = {
                pair: can_force(
                    apply_deed(sheaf, (pair[0], (pair[1],))).rows(), kept, end, first, known
                )
                for pair in pairs
            }
            if first == "target":
                known[state] = any(
                    all(good[pair] for pair in pairs if pair[1] == target)
                    for target in {pair[1] for pair in pairs}
                )
            else:
                known[state] = all(
                    any(good[pair] for pair in pairs if pair[0] == source)
                    for source in {pair[0] for pair in pairs}
                )
    return known[state]


class TestContest(unittest.TestCase):
    def check(self, contest, waiting, held, choices):
        self.assertEqual(contest.waiting, waiting)
        self.assertEqual(contest.held, held)
        self.assertEqual(contest.choices(), choices)

    def test_example(self):
        contest = Contest(Sheaf([(0, "a"), (1, "b"), (2, "c")]))
        self.assertIsNone(contest.choose(1))
        self.assertEqual(contest.choices(), [0])

    def test_the_source_first(self):
        for contest in (Contest(sheaf_of(2, 0, 1, 0)), Contest(sheaf_of(2, 0, 1, 0), first="source")):
            self.check(contest, "source", None, [0, 2])
            contest.choose(0)
            self.check(contest, "target", 0, [1, 2, 3])
            self.assertEqual(contest.current(), sheaf_of(2, 0, 1, 0))
            self.assertEqual(contest.done(), [])
            contest.choose(1)
            self.check(contest, "source", None, [0, 1, 2])
            self.assertEqual(contest.done(), [(0, (1,))])
            self.assertEqual(
                contest.current().rows(), [(1, "a"), (1, "a"), (1, "c"), (0, "d")]
            )
            contest.choose(2)
            self.check(contest, "target", 2, [3])
            contest.choose(3)
            self.check(contest, "source", None, [0, 1])

    def test_the_target_first(self):
        contest = Contest(sheaf_of(2, 0, 1, 0), first="target")
        self.check(contest, "target", None, [1, 2, 3])
        contest.choose(2)
        self.check(contest, "source", 2, [0])
        self.assertEqual(contest.done(), [])
        contest.choose(0)
        self.check(contest, "target", None, [1, 3])
        self.assertEqual(contest.done(), [(0, (2,))])
        contest.choose(3)
        self.check(contest, "source", 3, [0, 2])
        contest.choose(2)
        self.assertEqual(contest.done(), [(0, (2,)), (2, (3,))])
        self.assertEqual(sharpnesses_of(contest.current()), [1, 0, 0, 0])

    def test_level(self):
        for first in HALVES:
            contest = Contest(sheaf_of(3, 3), first=first)
            self.check(contest, None, None, [])
            for index in (0, 1, 2, -1):
                self.assertEqual(error_of(WrongMove, contest.choose, index).index, index)
            contest = Contest(sheaf_of(0, 1), first=first)
            contest.choose(1 if first == "source" else 0)
            contest.choose(0 if first == "source" else 1)
            self.check(contest, None, None, [])
            self.assertEqual(contest.done(), [(1, (0,))])
            self.assertEqual(error_of(WrongMove, contest.choose, 0).index, 0)

    def test_wrong_moves(self):
        rows = [(2, "a"), (0, "b"), (1, "c"), (0, "d")]
        # Before and after the first half: what is wrong, and then what is named.
        wrong = {
            "source": [([1, 3, 4, -1, -2, 99], 2), ([0, 2, 4, -1], 3)],
            "target": [([0, 4, -1, -4], 2), ([1, 2, 3, 4, -1], 0)],
        }
        for first in HALVES:
            contest = Contest(Sheaf(rows), first=first)
            for indexes, named in wrong[first]:
                before = (contest.waiting, contest.held, contest.choices())
                for index in indexes:
                    self.assertEqual(error_of(WrongMove, contest.choose, index).index, index)
                    self.check(contest, *before)
                    self.assertEqual(contest.current(), Sheaf(rows))
                    self.assertEqual(contest.done(), [])
                contest.choose(named)
            self.assertEqual(len(contest.done()), 1)

    def test_choices_against_the_words(self):
        for sheaf in list(small_sheaves(4, 3)) + [sheaf_of(*told) for told in permutations(range(4))]:
            told = sharpnesses_of(sheaf)
            indexes = range(len(told))
            sources = [a for a in indexes if any(other < told[a] for other in told)]
            targets = [b for b in indexes if any(other > told[b] for other in told)]
            self.assertEqual(Contest(sheaf).choices(), sources)
            self.assertEqual(Contest(sheaf, first="target").choices(), targets)
            for source in sources:
                contest = Contest(sheaf)
                contest.choose(source)
                below = [b for b in indexes if told[b] < told[source]]
                self.check(contest, "target", source, below)
            for target in targets:
                contest = Contest(sheaf, first="target")
                contest.choose(target)
                above = [a for a in indexes if told[a] > told[target]]
                self.check(contest, "source", target, above)

    def test_what_is_returned_is_new(self):
        contest = Contest(STAIRS)
        contest.choose(2)
        contest.choose(0)
        contest.done().append("x")
        contest.choices().append("x")
        self.assertEqual(contest.done(), [(2, (0,))])
        self.assertEqual(contest.choices(), [])
        contest = Contest(STAIRS)
        contest.choices().clear()
        contest.choose(1)


class TestPlay(unittest.TestCase):
    def test_example(self):
        contest = Contest(Sheaf([(0, "a"), (1, "b"), (2, "c")]), first="target")
        log = play(contest, LowSide("source"), Picker("target", [1]))
        self.assertEqual(contest.current().top, 0)
        self.assertEqual(contest.done(), log)

    def test_any_object_that_is_called(self):
        told = []

        def source_side(sheaf, named):
            told.append(("source", sheaf.rows(), named))
            return sharpnesses_of(sheaf).index(sheaf.top)

        class Side:
            def __call__(self, sheaf, named):
                told.append(("target", sheaf.rows(), named))
                return sharpnesses_of(sheaf).index(sheaf.bottom)

        log = play(Contest(STAIRS), source_side, Side())
        self.assertEqual(log, [(2, (0,))])
        self.assertEqual(told, [("source", STAIRS.rows(), None), ("target", STAIRS.rows(), 2)])
        told.clear()
        log = play(Contest(STAIRS, first="target"), source_side, Side())
        self.assertEqual(log, [(2, (0,))])
        self.assertEqual(told, [("target", STAIRS.rows(), None), ("source", STAIRS.rows(), 0)])

    def test_the_log_is_that_of_the_contest(self):
        chance = Random(261)
        for sheaf in some_sheaves(262, 40, most_sheets=9, span=7):
            for first in HALVES:
                contest = Contest(sheaf, first=first)
                sides = [Picker(half, many_picks(chance, 30)) for half in HALVES]
                log = play(contest, *sides)
                self.assertIs(is_complete(sheaf, log), True)
                self.assertEqual(log, contest.done())
                self.assertEqual(replay(sheaf, log), contest.current())
                log.append("x")
                self.assertNotIn("x", contest.done())

    def test_a_level_sheaf(self):
        for first in HALVES:
            contest = Contest(sheaf_of(1, 1), first=first)
            self.assertEqual(play(contest, None, None), [])
            contest = Contest(sheaf_of(0, 1), first=first)
            play(contest, Picker("source", []), Picker("target", []))
            self.assertEqual(play(contest, None, None), [(1, (0,))])

    def test_the_deeds_before(self):
        contest = Contest(STAIRS)
        contest.choose(1)
        contest.choose(0)
        log = play(contest, Picker("source", []), Picker("target", []))
        self.assertEqual(log, [(1, (0,)), (2, (0,)), (0, (1,)), (2, (0,))])

    def test_in_the_middle_of_a_turn(self):
        for first, named in [("source", 1), ("target", 1)]:
            contest = Contest(STAIRS, first=first)
            contest.choose(named)
            calls = []

            def side(half):
                picker = Picker(half, [])

                def call(sheaf, held):
                    calls.append((half, held))
                    return picker(sheaf, held)

                return call

            log = play(contest, side("source"), side("target"))
            other = "target" if first == "source" else "source"
            self.assertEqual(calls[0], (other, named))
            self.assertEqual(calls[1][0], first)
            self.assertIsNone(calls[1][1])
            self.assertEqual(log[0], (1, (0,)) if first == "source" else (2, (1,)))

    def test_a_side_that_names_what_may_not_be_named(self):
        contest = Contest(STAIRS)
        sources = [2, 0]

        def source_side(sheaf, named):
            return sources.pop(0)

        error = error_of(WrongMove, play, contest, source_side, lambda sheaf, named: 2)
        self.assertEqual(error.index, 2)
        self.assertEqual((contest.waiting, contest.held), ("target", 2))
        self.assertEqual((contest.done(), contest.current()), ([], STAIRS))
        error = error_of(WrongMove, play, contest, source_side, lambda sheaf, named: 3)
        self.assertEqual((error.index, contest.held), (3, 2))
        error = error_of(WrongMove, play, contest, source_side, lambda sheaf, named: 1)
        self.assertEqual(error.index, 0)
        self.assertEqual(contest.done(), [(2, (1,))])
        self.assertEqual((contest.waiting, contest.held), ("source", None))
        contest = Contest(STAIRS, first="target")
        error = error_of(WrongMove, play, contest, lambda sheaf, named: 0, lambda sheaf, named: 1)
        self.assertEqual((error.index, contest.held, contest.waiting), (0, 1, "source"))
        error = error_of(WrongMove, play, contest, lambda sheaf, named: 2, lambda sheaf, named: -1)
        self.assertEqual((error.index, contest.held, contest.waiting), (-1, None, "target"))
        self.assertEqual(contest.done(), [(2, (1,))])


class TestLowSide(unittest.TestCase):
    def test_every_other_side(self):
        for sheaf in list(small_sheaves(4, 5)) + list(small_sheaves(5, 3)):
            end = low_end(sheaf)
            for half in HALVES:
                for first in HALVES:
                    side = LowSide(half)
                    self.assertTrue(always(sheaf, side, half, first, lambda s: s.top == end, {}))

    def test_any_order_of_the_sheets(self):
        for told in permutations([0, 1, 3, 4]):
            sheaf = sheaf_of(*told)
            for half in HALVES:
                for first in HALVES:
                    side = LowSide(half)
                    self.assertTrue(
                        always(sheaf, side, half, first, lambda s: s.top == low_end(sheaf), {})
                    )

    def test_nine_sheets_against_pickers(self):
        chance = Random(263)
        for sheaf in some_sheaves(264, 40, most_sheets=9, span=9):
            end = low_end(sheaf)
            for first in HALVES:
                picks = many_picks(chance, 200)
                contest = Contest(sheaf, first=first)
                play(contest, LowSide("source"), Picker("target", picks))
                self.assertTrue(level_at(contest.current(), end))
                contest = Contest(sheaf, first=first)
                play(contest, Picker("source", picks), LowSide("target"))
                self.assertTrue(level_at(contest.current(), end))
                contest = Contest(sheaf, first=first)
                play(contest, LowSide("source"), LowSide("target"))
                self.assertTrue(level_at(contest.current(), end))

    def test_in_the_middle_of_a_turn(self):
        for sheaf in small_sheaves(4, 4):
            for first in HALVES:
                for named in Contest(sheaf, first=first).choices():
                    contest = Contest(sheaf, first=first)
                    contest.choose(named)
                    side = LowSide("target" if first == "source" else "source")
                    self.assertIn(side(contest.current(), named), contest.choices())


class TestSaving(unittest.TestCase):
    def test_against_every_warden(self):
        seen = {True: 0, False: 0}
        sheaves = list(small_sheaves(4, 3)) + list(small_record_sheaves(3, 3))
        sheaves += [sheaf_of(0, 0, 1, 2, 3), sheaf_of(0, 1, 1, 3, 3), sheaf_of(0, 0, 1, 3, 4)]
        for sheaf in sheaves:
            records = sheaf.records()
            for many in range(len(records) + 1):
                for kept in combinations(records, many):
                    saved = can_save(sheaf, list(kept))
                    seen[saved] += 1
                    self.check_both(sheaf, list(kept), saved)
        self.assertGreater(min(seen.values()), 150)

    def check_both(self, sheaf, kept, saved):
        end = low_end(sheaf)
        for first in HALVES:
            self.assertIs(can_force(sheaf.rows(), kept, end, first, {}), saved)
            found = always(
                sheaf, Warden(kept), "target", first,
                lambda left: left.top == end and set(kept) <= set(left.records()), {},
            )
            self.assertIs(found, saved, (sheaf.rows(), kept, first))

    def test_any_order_of_the_sheets(self):
        for told in permutations([0, 1, 1, 3]):
            sheaf = sheaf_of(*told)
            for kept in combinations("abcd", 2):
                self.check_both(sheaf, list(kept), can_save(sheaf, list(kept)))

    def test_records_that_no_sheet_bears(self):
        sheaf = sheaf_of(0, 0, 1, 1, 3)
        for kept in (["c"], ["a", "e"], []):
            self.assertTrue(can_save(sheaf, kept))
            for first in HALVES:
                found = always(
                    sheaf, Warden(["z"] + kept + ["yy"]), "target", first,
                    lambda left: left.top == 0 and set(kept) <= set(left.records()), {},
                )
                self.assertIs(found, True)

    def test_nine_sheets_against_pickers(self):
        chance = Random(265)
        saved = 0
        for sheaf in some_sheaves(266, 60, most_sheets=9, span=8):
            records = sheaf.records()
            kept = chance.sample(records, chance.randint(1, len(records)))
            for first in HALVES:
                contest = Contest(sheaf, first=first)
                play(contest, Picker("source", many_picks(chance, 200)), Warden(kept))
                self.assertTrue(contest.current().is_level())
                if can_save(sheaf, kept):
                    saved += 1
                    self.assertTrue(level_at(contest.current(), low_end(sheaf)))
                    self.assertTrue(set(kept) <= set(contest.current().records()))
        self.assertGreater(saved, 20)

    def test_lists_that_cannot_be_saved_are_still_played(self):
        for sheaf in small_sheaves(4, 4):
            warden = Warden(sheaf.records())
            for first in HALVES:
                contest = Contest(sheaf, first=first)
                play(contest, Picker("source", [3, 1, 2]), warden)
                self.assertTrue(contest.current().is_level())

    def test_can_save(self):
        self.assertIs(can_save(STAIRS, []), True)
        self.assertIs(can_save(STAIRS, ["c"]), True)
        self.assertIs(can_save(STAIRS, ["b"]), False)
        self.assertIs(can_save(sheaf_of(2, 2), ["b", "a"]), True)
        for sheaf in small_record_sheaves(4, 2):
            told = {
                record for end, shares in finals(sheaf.rows(), 1) if end == low_end(sheaf)
                for record, _ in shares
            }
            for record in sheaf.records():
                self.assertEqual(can_save(sheaf, [record]), record in told)

    def test_unknown_records(self):
        self.assertEqual(error_of(UnknownRecord, can_save, STAIRS, ["c", "z", "y"]).record, "z")
        self.assertEqual(error_of(UnknownRecord, can_save, STAIRS, ["b", "a", "y"]).record, "y")
        prices = {"z": 1, "c": 4, "y": 900}
        self.assertEqual(error_of(UnknownRecord, dearest_saved, STAIRS, prices).record, "y")

    def test_dearest_saved(self):
        sheaf = sheaf_of(0, 0, 1, 2)
        self.assertEqual(dearest_saved(sheaf, {}), [])
        self.assertEqual(dearest_saved(sheaf, {"d": 1, "c": 5, "a": 2}), ["c", "d"])
        self.assertEqual(dearest_saved(sheaf, {"d": 1, "c": 5, "a": 6}), ["a", "d"])
        chance = Random(267)
        for sheaf in small_sheaves(4, 3):
            prices = {record: chance.randint(1, 9) for record in sheaf.records()}
            found = dearest_saved(sheaf, prices)
            self.assertEqual(found, dearest_kept(sheaf, low_end(sheaf), prices))
            self.assertTrue(can_save(sheaf, found))
            best = max(
                sum(prices[record] for record in kept)
                for many in range(len(prices) + 1) for kept in combinations(prices, many)
                if can_save(sheaf, list(kept))
            )
            self.assertEqual(sum(prices[record] for record in found), best)

    def test_the_list_is_copied(self):
        sheaf = sheaf_of(0, 0, 1, 1, 3)
        self.assertTrue(can_save(sheaf, ["c"]))
        self.assertFalse(can_save(sheaf, ["c", "a"]))
        kept = ["c"]
        warden = Warden(kept)
        kept[0] = "a"
        for first in HALVES:
            found = always(
                sheaf, warden, "target", first, lambda left: "c" in left.records(), {}
            )
            self.assertTrue(found)


class TestPicker(unittest.TestCase):
    def test_picks_that_run_out_and_large_picks(self):
        sheaf = sheaf_of(0, 3, 1, 2)
        source = Picker("source", [1, 999, 2, 1000])
        self.assertEqual([source(sheaf, None) for _ in range(6)], [2, 1, 3, 2, 1, 1])
        target = Picker("target", [4, 2])
        self.assertEqual([target(sheaf, None) for _ in range(4)], [2, 3, 0, 0])
        source = Picker("source", [1, 999, 5])
        self.assertEqual([source(sheaf, 2) for _ in range(4)], [3, 3, 3, 1])
        target = Picker("target", [1, 2, 6])
        self.assertEqual([target(sheaf, 1) for _ in range(4)], [2, 3, 0, 0])

    def test_no_picks(self):
        contest = Contest(sheaf_of(1, 0, 2))
        log = play(contest, Picker("source", []), Picker("target", []))
        self.assertEqual(log, [(0, (1,)), (2, (0,)), (0, (1,)), (2, (0,))])

    def test_one_picker_in_two_contests(self):
        picker = Picker("source", [1, 0, 1])
        log = play(Contest(sheaf_of(1, 0, 2)), picker, Picker("target", [1]))
        self.assertEqual(log, [(2, (1,))])
        log = play(Contest(sheaf_of(1, 0, 2)), picker, Picker("target", []))
        self.assertEqual(log, [(0, (1,)), (2, (0,)), (0, (1,)), (2, (0,))])

    def test_calls_are_counted_through_all_contests(self):
        picker = Picker("target", [0, 1, 0, 1, 1])
        sheaf = sheaf_of(0, 0, 9)
        for wanted in (0, 1, 0, 1, 1, 0, 0):
            contest = Contest(sheaf)
            contest.choose(2)
            contest.choose(picker(contest.current(), contest.held))
            self.assertEqual(contest.done(), [(2, (wanted,))])

    def test_halves_that_are_already_named(self):
        for first, half in [("source", "source"), ("target", "target")]:
            contest = Contest(sheaf_of(0, 0, 4, 4), first=first)
            contest.choose(2 if first == "source" else 0)
            picker = Picker(half, [1])
            other = Picker("target" if half == "source" else "source", [])
            sides = [picker, other] if half == "source" else [other, picker]
            play(contest, *sides)
            # The pick was left for the second turn.
            self.assertEqual(contest.done()[0], (2, (0,)))
            sheaf = apply_deed(sheaf_of(0, 0, 4, 4), (2, (0,)))
            told = sharpnesses_of(sheaf)
            if half == "source":
                wanted = [k for k in range(4) if told[k] > min(told)][1]
                self.assertEqual(contest.done()[1][0], wanted)
            else:
                wanted = [k for k in range(4) if told[k] < max(told)][1]
                self.assertEqual(contest.done()[1][1], (wanted,))

    def test_the_picks_are_copied(self):
        picks = [1, 1, 1]
        picker = Picker("source", picks)
        picks[:] = [0]
        self.assertEqual([picker(STAIRS, None) for _ in range(4)], [2, 2, 2, 1])


if __name__ == "__main__":
    unittest.main()
