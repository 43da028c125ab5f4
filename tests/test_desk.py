import unittest
from random import Random

from tests.helpers import (
    error_of, level_at, meets, reasons_by_words, shares_of_rows, sheaf_of, some_log, some_sheaves,
)
from wornsheaf.claims import claim_demands, look
from wornsheaf.deeds import apply_deed, replay
from wornsheaf.demands import can_meet
from wornsheaf.desk import Desk, read_page
from wornsheaf.ends import high_end, low_end, possible_ends
from wornsheaf.errors import (
    Impossible, InvalidDeed, InvalidDemands, InvalidName, InvalidPage, InvalidSheaf,
    NothingToRedo, NothingToUndo, Spoiled, UnknownName, UsedName, WornError,
)
from wornsheaf.notation import parse_log, parse_sheaf
from wornsheaf.sheaf import Sheaf

ROWS = [(0, "a"), (1, "b"), (2, "c")]
STAIRS = Sheaf(ROWS)
FAR = [(0, "x"), (0, "y"), (4, "z")]


def desk_of(breadth=1, **sheaves):
    """Return a desk with these sheaves under their names."""
    desk = Desk(breadth=breadth)
    for name, rows in sheaves.items():
        desk.lay(name, rows)
    return desk


def all_told(desk):
    """Return all that the desk tells of its sheaves."""
    return {
        name: (
            desk.start(name).rows(), desk.sheaf(name).rows(), desk.journal(name),
            desk.undone(name), desk.goal(name),
        )
        for name in desk.names()
    }


class DeskTest(unittest.TestCase):
    def refuse(self, desk, error, function, *things):
        """Check that a method raises the error and leaves the desk as it was."""
        before = (all_told(desk), desk.page(), desk.breadth)
        caught = error_of(error, function, *things)
        self.assertEqual((all_told(desk), desk.page(), desk.breadth), before)
        return caught

    def check(self, desk, name, current, journal, undone=(), goal=None):
        self.assertEqual(desk.sheaf(name).rows(), current)
        self.assertEqual(desk.journal(name), journal)
        self.assertEqual(desk.undone(name), list(undone))
        self.assertEqual(desk.goal(name), goal)


class TestLaying(DeskTest):
    def test_an_empty_desk(self):
        desk = Desk()
        self.assertEqual((desk.names(), desk.breadth, desk.page()), ([], 1, ""))
        self.assertEqual(Desk(breadth=4).breadth, 4)

    def test_lay(self):
        desk = Desk()
        self.assertIsNone(desk.lay("p", ROWS))
        self.assertIsNone(desk.lay("0z9", [(5, "k")]))
        self.assertIsNone(desk.lay("abcdefgh", [(-5, "k")]))
        self.assertEqual(desk.names(), ["0z9", "abcdefgh", "p"])
        self.assertEqual(desk.start("p"), STAIRS)
        self.check(desk, "p", ROWS, [])
        self.check(desk, "0z9", [(5, "k")], [])

    def test_names_that_are_not_valid(self):
        desk = desk_of(p=ROWS)
        for name in ("", "P", "a b", "a;", "abcdefghi", "a-b", "p\n", " p", "a=", "_", "\u00e4"):
            self.assertEqual(self.refuse(desk, InvalidName, desk.lay, name, ROWS).name, name)
            # The name comes before the rows.
            self.assertEqual(self.refuse(desk, InvalidName, desk.lay, name, []).name, name)

    def test_used_names(self):
        desk = desk_of(p=ROWS, q=FAR)
        for rows in (ROWS, [], [(0, "A")]):
            self.assertEqual(self.refuse(desk, UsedName, desk.lay, "p", rows).name, "p")

    def test_sheaves_that_are_not_valid(self):
        desk = desk_of(p=ROWS)
        self.assertEqual(self.refuse(desk, InvalidSheaf, desk.lay, "q", []).index, 0)
        rows = [(0, "a"), (1, ""), (2, "B")]
        self.assertEqual(self.refuse(desk, InvalidSheaf, desk.lay, "q", rows).index, 1)
        desk.lay("q", rows[:1])

    def test_drop(self):
        desk = desk_of(p=ROWS, q=FAR)
        desk.set_goal("p", 1, {})
        desk.do("p", (2, (0,)))
        self.assertIsNone(desk.drop("p"))
        self.assertEqual(desk.names(), ["q"])
        self.assertEqual(self.refuse(desk, UnknownName, desk.drop, "p").name, "p")
        desk.lay("p", FAR)
        self.check(desk, "p", FAR, [])

    def test_unknown_names_come_first(self):
        desk = desk_of(p=ROWS)
        for name in ("q", "", "P", "pp", "no such name"):
            for method, things in [
                (desk.drop, ()), (desk.sheaf, ()), (desk.start, ()), (desk.journal, ()),
                (desk.undone, ()), (desk.goal, ()), (desk.set_goal, (0, {"a": -1})),
                (desk.release, ()), (desk.do, ((9, ()),)), (desk.run, ([(9, ())],)),
                (desk.run, ([],)), (desk.undo, ()), (desk.redo, ()), (desk.finish, ()),
                (desk.answer, (0, {"a": -1})), (desk.bind, ("p", "P")), (desk.bind, ("q", "r")),
            ]:
                self.assertEqual(self.refuse(desk, UnknownName, method, name, *things).name, name)

    def test_the_rows_are_copied(self):
        rows = list(ROWS)
        desk = desk_of(p=rows)
        rows[0] = (9, "q")
        self.assertEqual(desk.sheaf("p"), STAIRS)


class TestDeeds(DeskTest):
    def test_do(self):
        desk = desk_of(p=ROWS, q=FAR)
        self.assertIsNone(desk.do("p", (2, (0,))))
        self.check(desk, "p", [(1, "c"), (1, "b"), (1, "c")], [(2, (0,))])
        self.check(desk, "q", FAR, [])
        self.assertEqual(desk.start("p"), STAIRS)
        desk.do("q", (2, (1,)))
        desk.do("q", (1, (0,)))
        self.check(desk, "q", [(2, "z"), (2, "z"), (3, "z")], [(2, (1,)), (1, (0,))])

    def test_run(self):
        desk = desk_of(p=ROWS)
        log = [(1, (0,)), (2, (1,))]
        self.assertIsNone(desk.run("p", log))
        log.append("x")
        self.check(desk, "p", [(0, "b"), (1, "c"), (1, "c")], [(1, (0,)), (2, (1,))])
        desk.run("p", [(2, (0,)), (1, (0,))])
        self.assertEqual(desk.journal("p"), [(1, (0,)), (2, (1,)), (2, (0,)), (1, (0,))])
        self.assertTrue(level_at(desk.sheaf("p"), 0))

    def test_breadth(self):
        desk = desk_of(3, p=FAR, q=ROWS)
        desk.do("p", (2, (0, 1)))
        self.check(desk, "p", [(3, "z")] * 3, [(2, (0, 1))])
        desk = desk_of(p=FAR)
        self.assertEqual(self.refuse(desk, InvalidDeed, desk.do, "p", (2, (0, 1))).position, 0)

    def test_deeds_that_are_not_allowed(self):
        desk = desk_of(p=ROWS)
        desk.do("p", (1, (0,)))
        for deed in [
            (0, (1,)), (0, (2,)), (2, ()), (2, (0, 1)), (2, (3,)), (3, (0,)), (-1, (0,)), (2, (-3,)),
            (2, (2,)),
        ]:
            self.assertEqual(self.refuse(desk, InvalidDeed, desk.do, "p", deed).position, 0)
            log = [(2, (1,)), deed, deed]
            self.assertEqual(self.refuse(desk, InvalidDeed, desk.run, "p", log).position, 1)

    def test_run_does_all_or_none(self):
        desk = desk_of(p=ROWS)
        desk.do("p", (1, (0,)))
        desk.do("p", (2, (1,)))
        desk.undo("p")
        for log in ([(2, (1,)), (2, (0,)), (9, (0,))], [(2, (1,)), (0, (2,))]):
            position = self.refuse(desk, InvalidDeed, desk.run, "p", log).position
            self.assertEqual(position, len(log) - 1)
        desk = desk_of(p=[(0, "a"), (0, "b"), (1, "c"), (2, "d")])
        log = [(2, (0,)), (3, (1,)), (1, (0,)), (3, (2,)), (9, ())]
        desk.run("p", log[:2])
        desk.undo("p")
        desk.set_goal("p", 0, {"c": 1})
        error = self.refuse(desk, Spoiled, desk.run, "p", log[1:])
        self.assertEqual(error.position, 2)

    def test_undone_deeds_are_emptied_by_one_deed_only(self):
        for act in (
            lambda desk: desk.do("p", (2, (0,))), lambda desk: desk.run("p", [(2, (0,))]),
            lambda desk: desk.run_all([("p", (2, (0,)))]),
            lambda desk: desk.run_all([("q", (2, (0,))), ("p", (2, (0,)))]),
            lambda desk: desk.finish("p"),
        ):
            desk = desk_of(p=ROWS, q=FAR)
            desk.run("p", [(1, (0,)), (2, (1,))])
            desk.undo("p")
            desk.undo("p")
            self.assertEqual(desk.undone("p"), [(1, (0,)), (2, (1,))])
            act(desk)
            self.assertEqual(desk.undone("p"), [])
        for act in (
            lambda desk: desk.run("p", []), lambda desk: desk.run_all([]),
            lambda desk: desk.run_all([("q", (2, (0,)))]),
        ):
            desk = desk_of(p=ROWS, q=FAR)
            desk.run("p", [(1, (0,)), (2, (1,))])
            desk.undo("p")
            act(desk)
            self.assertEqual(desk.undone("p"), [(2, (1,))])
            self.assertEqual(desk.journal("p"), [(1, (0,))])


class TestRunAll(DeskTest):
    def test_several_sheaves(self):
        desk = desk_of(p=ROWS, q=FAR)
        steps = [("p", (1, (0,))), ("q", (2, (0,))), ("p", (2, (1,))), ("q", (2, (1,)))]
        self.assertIsNone(desk.run_all(steps))
        self.assertEqual(desk.journal("p"), [(1, (0,)), (2, (1,))])
        self.assertEqual(desk.journal("q"), [(2, (0,)), (2, (1,))])
        self.assertEqual(steps[0], ("p", (1, (0,))))

    def test_the_order_within_each_step(self):
        desk = desk_of(p=ROWS, q=FAR)
        desk.set_goal("p", 0, {"c": 3})
        good, other = ("p", (1, (0,))), ("q", (2, (0,)))
        bad, spoiling, unknown = ("q", (0, (2,))), ("p", (2, (0,))), ("r", (9, ()))
        for steps, error, wanted in [
            ([good, other, bad, spoiling, unknown], InvalidDeed, 2),
            ([other, spoiling, bad, unknown], Spoiled, 1),
            ([other, good, ("p", (0, (1,))), unknown], InvalidDeed, 2),
        ]:
            self.assertEqual(self.refuse(desk, error, desk.run_all, steps).position, wanted)
        for steps in ([unknown], [good, other, unknown, bad], [other, ("", (2, (1,))), spoiling]):
            names = [name for name, _ in steps if name not in ("p", "q")]
            self.assertEqual(self.refuse(desk, UnknownName, desk.run_all, steps).name, names[0])

    def test_all_or_none_over_several_sheaves(self):
        desk = desk_of(p=ROWS, q=FAR, r=ROWS)
        desk.do("r", (1, (0,)))
        desk.undo("r")
        steps = [("p", (1, (0,))), ("q", (2, (0,))), ("r", (2, (1,))), ("q", (0, (2,)))]
        self.assertEqual(self.refuse(desk, InvalidDeed, desk.run_all, steps).position, 3)
        desk.run_all(steps[:3])
        self.assertEqual([desk.journal(name) for name in "pqr"], [
            [(1, (0,))], [(2, (0,))], [(2, (1,))],
        ])
        self.assertEqual(desk.undone("r"), [])

    def test_no_step(self):
        desk = Desk()
        self.assertIsNone(desk.run_all([]))


class TestGoals(DeskTest):
    def test_example(self):
        desk = Desk()
        desk.lay("p", [(0, "a"), (1, "b"), (2, "c")])
        desk.set_goal("p", 0, {"c": 3})
        desk.do("p", (1, (0,)))
        self.assertEqual(desk.page(), "p;0:a 1:b 2:c;1>0;;0 c=3")

    def test_example_of_a_spoiled_goal(self):
        desk = Desk()
        desk.lay("p", [(0, "a"), (1, "b"), (2, "c")])
        desk.set_goal("p", 0, {"c": 3})
        error = self.refuse(desk, Spoiled, desk.do, "p", (2, (0,)))
        self.assertEqual((error.position, error.reason), (0, ("height", 0, 0)))

    def test_set_replace_and_release(self):
        desk = desk_of(p=ROWS)
        self.assertIsNone(desk.set_goal("p", 0, {"c": 3, "z": 0, "a": 0}))
        self.assertEqual(desk.goal("p"), (0, {"c": 3}))
        desk.set_goal("p", 1, {"b": 1})
        self.assertEqual(desk.goal("p"), (1, {"b": 1}))
        desk.set_goal("p", 1, {"b": 0})
        self.assertEqual(desk.goal("p"), (1, {}))
        self.assertIsNone(desk.release("p"))
        self.assertIsNone(desk.goal("p"))
        desk.release("p")
        self.assertIsNone(desk.goal("p"))
        desk.do("p", (1, (0,)))

    def test_refused_goals(self):
        desk = desk_of(p=ROWS)
        for goal in (None, (0, {"c": 3}), (1, {"b": 1})):
            if goal is not None:
                desk.set_goal("p", *goal)
            error = self.refuse(desk, InvalidDemands, desk.set_goal, "p", 9, {"c": -1, "b": -3})
            self.assertEqual(error.record, "b")
            for end, demands in [(0, {"b": 1}), (2, {}), (1, {"a": 1}), (0, {"c": 4}), (-1, {})]:
                error = self.refuse(desk, Impossible, desk.set_goal, "p", end, demands)
                self.assertEqual(error.reason, reasons_by_words(STAIRS, end, demands, 1)[0])
            self.assertEqual(desk.goal("p"), goal)

    def test_the_current_sheaf_counts_and_the_breadth(self):
        desk = desk_of(p=ROWS)
        desk.do("p", (1, (0,)))
        error = self.refuse(desk, Impossible, desk.set_goal, "p", 1, {})
        self.assertEqual(error.reason, ("reach", 2))
        desk.set_goal("p", 0, {"c": 3})
        desk = desk_of(p=FAR)
        self.assertEqual(
            self.refuse(desk, Impossible, desk.set_goal, "p", 3, {}).reason, ("reach", 2)
        )
        desk = desk_of(2, p=FAR)
        desk.set_goal("p", 3, {"z": 3})
        error = self.refuse(desk, Spoiled, desk.do, "p", (2, (0,)))
        self.assertEqual(error.reason, ("reach", 2))
        desk.do("p", (2, (0, 1)))

    def test_other_sheaves_have_their_own_goals(self):
        desk = desk_of(p=ROWS, q=ROWS, r=ROWS)
        desk.set_goal("p", 0, {"c": 3})
        desk.set_goal("q", 1, {})
        desk.do("q", (2, (0,)))
        desk.do("r", (2, (1,)))
        self.assertEqual([desk.goal(name) for name in "pqr"], [(0, {"c": 3}), (1, {}), None])

    def test_invalid_deeds_before_spoiled_ones(self):
        desk = desk_of(p=ROWS)
        desk.set_goal("p", 1, {})
        for deed in [(2, (0, 1)), (0, (1,)), (9, (0,))]:
            self.assertEqual(self.refuse(desk, InvalidDeed, desk.do, "p", deed).position, 0)
        error = self.refuse(desk, Spoiled, desk.run, "p", [(1, (0,)), (9, (0,))])
        self.assertEqual((error.position, error.reason), (0, ("reach", 2)))
        error = self.refuse(desk, InvalidDeed, desk.run, "p", [(9, (0,)), (1, (0,))])
        self.assertEqual(error.position, 0)
        error = self.refuse(desk, InvalidDeed, desk.run, "p", [(2, (0,)), (1, (0,))])
        self.assertEqual(error.position, 1)

    def test_positions_of_spoiling_deeds(self):
        rows = [(0, "a"), (0, "b"), (1, "c"), (2, "d")]
        desk = desk_of(p=rows)
        desk.set_goal("p", 0, {"c": 1})
        log = [(2, (0,)), (3, (1,)), (1, (0,)), (3, (2,))]
        error = self.refuse(desk, Spoiled, desk.run, "p", log)
        left = replay(Sheaf(rows), log)
        self.assertEqual(error.position, 3)
        self.assertEqual(error.reason, reasons_by_words(left, 0, {"c": 1}, 1)[0])
        error = self.refuse(desk, Spoiled, desk.run_all, [("p", deed) for deed in log])
        self.assertEqual(error.position, 3)
        desk.run("p", log[:3])
        self.assertEqual(self.refuse(desk, Spoiled, desk.do, "p", log[3]).position, 0)

    def test_a_goal_can_always_be_met(self):
        chance = Random(291)
        refused = 0
        for sheaf in some_sheaves(292, 25, most_sheets=8, span=5):
            desk = desk_of(2, p=sheaf.rows())
            end = chance.choice(possible_ends(sheaf, breadth=2))
            demands = {}
            for record in sheaf.records():
                if can_meet(sheaf, end, {**demands, record: 1}, breadth=2):
                    demands[record] = 1
            desk.set_goal("p", end, demands)
            for _ in range(300):
                now = desk.sheaf("p")
                if now.is_level():
                    self.assertEqual(now.top, end)
                    self.assertTrue(meets(shares_of_rows(now.rows()), demands))
                    break
                deed = some_log(now, 2, chance, most=1)[0][0]
                try:
                    desk.do("p", deed)
                except Spoiled as error:
                    refused += 1
                    left = apply_deed(now, deed, breadth=2)
                    wanted = reasons_by_words(left, end, demands, 2)[0]
                    self.assertEqual((error.position, error.reason), (0, wanted))
                self.assertTrue(can_meet(desk.sheaf("p"), end, demands, breadth=2))
        self.assertGreater(refused, 20)

    def test_the_demands_are_copied(self):
        desk = desk_of(p=ROWS)
        demands = {"c": 2}
        desk.set_goal("p", 1, demands)
        demands["c"] = 3
        self.assertEqual(desk.goal("p"), (1, {"c": 2}))
        desk.goal("p")[1]["b"] = 9
        self.assertEqual(desk.goal("p"), (1, {"c": 2}))


class TestUndoing(DeskTest):
    def test_undo_and_redo(self):
        desk = desk_of(p=ROWS)
        log = [(1, (0,)), (2, (1,)), (2, (0,))]
        desk.run("p", log)
        for many in (2, 1, 0):
            self.assertEqual(desk.undo("p"), log[many])
            self.check(desk, "p", replay(STAIRS, log[:many]).rows(), log[:many], log[many:])
        self.assertEqual(self.refuse(desk, NothingToUndo, desk.undo, "p").name, "p")
        for many in (1, 2, 3):
            self.assertEqual(desk.redo("p"), log[many - 1])
            self.check(desk, "p", replay(STAIRS, log[:many]).rows(), log[:many], log[many:])
        self.assertEqual(self.refuse(desk, NothingToRedo, desk.redo, "p").name, "p")
        self.assertEqual(desk.start("p"), STAIRS)

    def test_nothing_to_undo_or_redo(self):
        desk = desk_of(p=ROWS, q=ROWS)
        desk.do("q", (1, (0,)))
        self.assertEqual(self.refuse(desk, NothingToUndo, desk.undo, "p").name, "p")
        self.assertEqual(self.refuse(desk, NothingToRedo, desk.redo, "q").name, "q")
        desk.undo("q")
        self.assertEqual(self.refuse(desk, NothingToRedo, desk.redo, "p").name, "p")
        self.assertEqual(self.refuse(desk, NothingToUndo, desk.undo, "q").name, "q")

    def test_over_goals(self):
        desk = desk_of(p=ROWS)
        log = [(1, (0,)), (2, (0,))]
        desk.run("p", log)
        desk.undo("p")
        desk.undo("p")
        desk.set_goal("p", 1, {})
        self.check(desk, "p", ROWS, [], log, (1, {}))
        error = self.refuse(desk, Spoiled, desk.redo, "p")
        self.assertEqual((error.position, error.reason), (0, ("reach", 2)))
        desk.set_goal("p", 0, {"c": 2})
        self.check(desk, "p", ROWS, [], log, (0, {"c": 2}))
        desk.redo("p")
        self.check(desk, "p", [(0, "b"), (0, "b"), (2, "c")], log[:1], log[1:], (0, {"c": 2}))
        desk.redo("p")
        self.check(desk, "p", [(1, "c"), (0, "b"), (1, "c")], log, [], (0, {"c": 2}))
        desk.undo("p")
        desk.release("p")
        self.check(desk, "p", [(0, "b"), (0, "b"), (2, "c")], log[:1], log[1:])
        desk.undo("p")
        desk.set_goal("p", 1, {"b": 1})
        self.assertEqual(self.refuse(desk, Spoiled, desk.redo, "p").position, 0)
        desk.release("p")
        self.assertEqual([desk.redo("p"), desk.redo("p")], log)

    def test_goals_stay_when_deeds_are_undone(self):
        desk = desk_of(p=ROWS)
        desk.run("p", [(1, (0,)), (2, (1,))])
        desk.set_goal("p", 0, {"c": 3})
        desk.undo("p")
        desk.undo("p")
        self.check(desk, "p", ROWS, [], [(1, (0,)), (2, (1,))], (0, {"c": 3}))

    def test_breadth(self):
        desk = desk_of(2, p=FAR)
        desk.do("p", (2, (0, 1)))
        self.assertEqual(desk.undo("p"), (2, (0, 1)))
        self.assertEqual(desk.redo("p"), (2, (0, 1)))

    def test_random_walks(self):
        chance = Random(293)
        for sheaf in some_sheaves(294, 20, most_sheets=9, span=6):
            desk = desk_of(2, p=sheaf.rows())
            journal, undone = [], []
            for _ in range(60):
                act = chance.choice("dduur")
                now = replay(sheaf, journal, breadth=2)
                if act == "d" and not now.is_level():
                    deed = some_log(now, 2, chance, most=1)[0][0]
                    desk.do("p", deed)
                    journal, undone = journal + [deed], []
                elif act == "u" and journal:
                    self.assertEqual(desk.undo("p"), journal[-1])
                    journal, undone = journal[:-1], journal[-1:] + undone
                elif act == "r" and undone:
                    self.assertEqual(desk.redo("p"), undone[0])
                    journal, undone = journal + undone[:1], undone[1:]
                self.check(
                    desk, "p", replay(sheaf, journal, breadth=2).rows(), journal, undone
                )
            self.assertEqual(read_page(desk.page(), breadth=2).page(), desk.page())


class TestFinishing(DeskTest):
    def test_without_a_goal(self):
        for sheaf in [STAIRS, Sheaf(FAR), sheaf_of(0, 0, 3)] + list(some_sheaves(295, 15)):
            for breadth in (1, 3):
                desk = desk_of(breadth, p=sheaf.rows())
                high = high_end(sheaf, breadth=breadth)
                log = desk.finish("p")
                self.assertIsInstance(log, list)
                self.assertTrue(level_at(desk.sheaf("p"), high))
                self.assertEqual(desk.journal("p"), log)
                self.assertEqual(replay(sheaf, log, breadth=breadth), desk.sheaf("p"))
                self.assertEqual(desk.finish("p"), [])
                self.assertIsNone(desk.goal("p"))

    def test_behind_other_deeds(self):
        desk = desk_of(p=ROWS)
        desk.do("p", (1, (0,)))
        desk.do("p", (2, (1,)))
        desk.undo("p")
        log = desk.finish("p")
        self.assertTrue(level_at(desk.sheaf("p"), 0))
        self.assertEqual(desk.journal("p"), [(1, (0,))] + log)
        self.assertEqual(desk.undone("p"), [])
        self.assertGreater(len(log), 0)
        log.append("x")
        self.assertNotIn("x", desk.journal("p"))

    def test_with_a_goal(self):
        for end, demands in [(0, {"c": 3}), (1, {"b": 1}), (0, {"c": 1}), (1, {})]:
            desk = desk_of(p=ROWS, q=ROWS)
            desk.set_goal("p", end, demands)
            log = desk.finish("p")
            self.assertTrue(level_at(desk.sheaf("p"), end))
            self.assertTrue(meets(shares_of_rows(desk.sheaf("p").rows()), demands))
            self.assertEqual(desk.journal("p"), log)
            self.assertEqual(desk.goal("p"), (end, demands))
            self.assertEqual(desk.journal("q"), [])
            self.assertEqual(desk.finish("p"), [])
        desk = desk_of(2, p=FAR)
        desk.set_goal("p", 2, {"z": 2})
        desk.finish("p")
        self.assertTrue(level_at(desk.sheaf("p"), 2))

    def test_level_sheaves(self):
        desk = desk_of(p=[(3, "a"), (3, "b")], q=[(-1, "k")])
        desk.set_goal("p", 3, {"a": 1, "b": 1})
        for name in "pq":
            before = all_told(desk)
            self.assertEqual(desk.finish(name), [])
            self.assertEqual(all_told(desk), before)

    def test_forty_sheets(self):
        chance = Random(296)
        for told in [list(range(40)), [0] * 39 + [20], [chance.randint(-1000, -980) for _ in range(40)]]:
            sheaf = sheaf_of(*told)
            for breadth in (1, 6):
                desk = desk_of(breadth, p=sheaf.rows())
                desk.finish("p")
                self.assertTrue(level_at(desk.sheaf("p"), high_end(sheaf, breadth=breadth)))
                desk = desk_of(breadth, p=sheaf.rows())
                record = sheaf.record_of(told.index(max(told)))
                desk.set_goal("p", low_end(sheaf), {record: 20})
                desk.finish("p")
                self.assertTrue(level_at(desk.sheaf("p"), low_end(sheaf)))
                self.assertGreaterEqual(desk.sheaf("p").shares()[record], 20)


class TestBinding(DeskTest):
    def test_a_new_name_or_that_of_one_of_the_two(self):
        for name in ("p", "q", "new"):
            desk = desk_of(p=ROWS, q=FAR, r=ROWS)
            desk.do("p", (1, (0,)))
            desk.run("q", [(2, (0,)), (2, (1,))])
            desk.undo("q")
            now = desk.sheaf("p") + desk.sheaf("q")
            self.assertIsNone(desk.bind("p", "q", name))
            self.assertEqual(desk.names(), sorted([name, "r"]))
            self.assertEqual(desk.start(name), now)
            self.check(desk, name, now.rows(), [])
            self.check(desk, "r", ROWS, [])

    def test_the_order_of_the_two(self):
        desk = desk_of(p=ROWS, q=FAR)
        desk.bind("q", "p", "p")
        self.check(desk, "p", FAR + ROWS, [])

    def test_goals(self):
        goals = [
            ((1, {"c": 2, "b": 1}), (1, {"z": 1, "b": 0}), (1, {"c": 2, "b": 1, "z": 1})),
            ((1, {}), (1, {}), (1, {})),
            ((0, {"c": 3}), (1, {}), None),
            ((1, {}), None, None),
            (None, (1, {}), None),
            (None, None, None),
        ]
        for first, second, wanted in goals:
            desk = desk_of(p=ROWS, q=[(0, "y"), (1, "b"), (3, "z")])
            for name, goal in (("p", first), ("q", second)):
                if goal is not None:
                    desk.set_goal(name, *goal)
            desk.bind("p", "q", "both")
            self.assertEqual(desk.goal("both"), wanted)

    def test_demands_for_one_record_are_added_up(self):
        desk = desk_of(p=ROWS, q=ROWS)
        desk.set_goal("p", 1, {"c": 2, "b": 1})
        desk.set_goal("q", 1, {"c": 1, "b": 1})
        desk.bind("p", "q", "p")
        self.assertEqual(desk.goal("p"), (1, {"c": 3, "b": 2}))
        self.assertTrue(can_meet(desk.sheaf("p"), 1, {"c": 3, "b": 2}))
        desk.finish("p")
        self.assertTrue(meets(desk.sheaf("p").shares(), {"c": 3, "b": 2}))

    def test_bound_goals_can_be_met(self):
        chance = Random(297)
        for sheaf in some_sheaves(298, 40, most_sheets=10, span=5):
            other = Sheaf([(sharpness + chance.randint(0, 1), record) for sharpness, record in sheaf])
            ends = set(possible_ends(sheaf, breadth=2)) & set(possible_ends(other, breadth=2))
            for end in sorted(ends)[:2]:
                desk = desk_of(2, p=sheaf.rows(), q=other.rows())
                for name in "pq":
                    for record in "abcde":
                        goal = desk.goal(name) or (end, {})
                        demands = {**goal[1], record: chance.randint(0, 3)}
                        if can_meet(desk.sheaf(name), end, demands, breadth=2):
                            desk.set_goal(name, end, demands)
                first, second = desk.goal("p"), desk.goal("q")
                desk.bind("p", "q", "pq")
                if first is not None and second is not None:
                    total = {
                        record: first[1].get(record, 0) + second[1].get(record, 0)
                        for record in {**first[1], **second[1]}
                    }
                    self.assertEqual(desk.goal("pq"), (end, total))
                    desk.finish("pq")
                    self.assertTrue(meets(desk.sheaf("pq").shares(), total))

    def test_errors_in_their_order(self):
        desk = desk_of(p=ROWS, q=FAR, r=ROWS)
        desk.set_goal("p", 1, {})
        desk.set_goal("r", 1, {})
        for things, error, name in [
            (("x", "y", "BAD"), UnknownName, "x"),
            (("p", "y", "BAD"), UnknownName, "y"),
            (("x", "x", "BAD"), UnknownName, "x"),
            (("", "p", "new"), UnknownName, ""),
            (("p", "p", "BAD"), UsedName, "p"),
            (("p", "p", "r"), UsedName, "p"),
            (("p", "p", "p"), UsedName, "p"),
            (("p", "p", "new"), UsedName, "p"),
            (("p", "q", "BAD"), InvalidName, "BAD"),
            (("p", "q", ""), InvalidName, ""),
            (("p", "q", "r"), UsedName, "r"),
            (("q", "p", "r"), UsedName, "r"),
        ]:
            self.assertEqual(self.refuse(desk, error, desk.bind, *things).name, name)


class TestAnswers(DeskTest):
    def test_answers(self):
        desk = desk_of(2, p=FAR, q=ROWS)
        desk.do("q", (2, (0,)))
        for name in "pq":
            for end in range(-1, 5):
                for demands in ({}, {"z": 3}, {"c": 2, "b": 1}, {"b": 0, "k": 1}):
                    before = all_told(desk)
                    claim = desk.answer(name, end, demands)
                    self.assertEqual(all_told(desk), before)
                    wanted = claim_demands(desk.sheaf(name), end, demands, breadth=2)
                    self.assertEqual(
                        (claim.kind, claim.end, claim.subject()), (wanted.kind, end, demands)
                    )
                    self.assertIs(look(desk.sheaf(name), claim, breadth=2), True)
                    if claim.kind == "fails":
                        self.assertEqual(claim.paper(), wanted.paper())

    def test_the_goal_is_left_out_of_account(self):
        desk = desk_of(p=ROWS)
        desk.set_goal("p", 0, {"c": 3})
        claim = desk.answer("p", 1, {"b": 1})
        self.assertEqual((claim.kind, claim.paper()), ("meets", [(2, (0,))]))
        self.assertEqual(desk.answer("p", 0, {"b": 1}).paper(), ("height", 1, 1))

    def test_refused_demands(self):
        desk = desk_of(p=ROWS)
        error = self.refuse(desk, InvalidDemands, desk.answer, "p", 9, {"c": -1, "b": -1})
        self.assertEqual(error.record, "b")


class TestPages(DeskTest):
    def test_pages(self):
        desk = Desk()
        self.assertEqual(desk.page(), "")
        desk.lay("q", FAR)
        self.assertEqual(desk.page(), "q;0:x 0:y 4:z;;;")
        desk.lay("b2", [(-3, "k9"), (-1, "k9")])
        desk.set_goal("b2", -2, {"k9": 2, "z": 0})
        desk.run("q", [(2, (0,)), (2, (1,)), (0, (2,))])
        desk.undo("q")
        desk.undo("q")
        self.assertEqual(desk.page(), "b2;-3:k9 -1:k9;;;-2 k9=2\nq;0:x 0:y 4:z;2>0;2>1 0>2;")
        desk.set_goal("b2", -2, {"k9": 0})
        desk.set_goal("q", 2, {"z": 3, "x": 0})
        self.assertEqual(desk.page(), "b2;-3:k9 -1:k9;;;-2\nq;0:x 0:y 4:z;2>0;2>1 0>2;2 z=3")
        desk.drop("b2")
        desk.lay("r", [(1, "a")])
        desk.set_goal("r", 1, {})
        self.assertEqual(desk.page(), "q;0:x 0:y 4:z;2>0;2>1 0>2;2 z=3\nr;1:a;;;1")

    def test_several_records_and_targets(self):
        desk = desk_of(2, p=[(0, "b"), (0, "a"), (0, "e"), (3, "d"), (4, "c")])
        desk.set_goal("p", 2, {"d": 1, "c": 2})
        desk.do("p", (4, (0, 1)))
        self.assertEqual(desk.page(), "p;0:b 0:a 0:e 3:d 4:c;4>0,1;;2 c=2 d=1")

    def read(self, page, breadth=1):
        """Read a page and compare what the desk tells with the page."""
        desk = read_page(page, breadth=breadth)
        self.assertIsInstance(desk, Desk)
        self.assertEqual((desk.page(), desk.breadth), (page, breadth))
        return desk

    def test_read_pages(self):
        desk = self.read("p;0:a 1:b 2:c;1>0;2>1 2>0;0 c=2")
        self.check(
            desk, "p", [(0, "b"), (0, "b"), (2, "c")], [(1, (0,))], [(2, (1,)), (2, (0,))],
            (0, {"c": 2}),
        )
        self.assertEqual(desk.start("p"), STAIRS)
        self.assertEqual([desk.redo("p"), desk.redo("p")], [(2, (1,)), (2, (0,))])
        desk = self.read("a;1:a;;;\nb;-3:k9 -1:k9;;;-2\nq;0:x 0:y 4:z;2>0;2>1 0>2;", 2)
        self.assertEqual(desk.names(), ["a", "b", "q"])
        self.assertEqual(desk.goal("b"), (-2, {}))
        self.assertEqual(desk.undone("q"), [(2, (1,)), (0, (2,))])
        self.assertEqual(desk.undo("q"), (2, (0,)))
        desk.do("q", (2, (0, 1)))

    def test_the_empty_text(self):
        desk = self.read("", 3)
        self.assertEqual(desk.names(), [])
        desk.lay("p", ROWS)

    def test_undone_deeds_need_not_meet_the_goal(self):
        desk = self.read("p;0:a 1:b 2:c;;1>0;1")
        error = self.refuse(desk, Spoiled, desk.redo, "p")
        self.assertEqual((error.position, error.reason), (0, ("reach", 2)))
        desk.release("p")
        self.assertEqual(desk.redo("p"), (1, (0,)))

    def test_desks_are_read_back(self):
        chance = Random(299)
        for seed in range(12):
            desk = Desk(breadth=2)
            for name, sheaf in zip(["k", "a0", "9", "zzzzzzzz"], some_sheaves(900 + seed, 4, 9, 6)):
                desk.lay(name, sheaf.rows())
                log, _ = some_log(sheaf, 2, chance, most=chance.randint(0, 6))
                desk.run(name, log)
                for _ in range(chance.randint(0, len(log))):
                    desk.undo(name)
                if chance.random() < 0.7:
                    now = desk.sheaf(name)
                    record = chance.choice(now.records())
                    end = chance.choice(possible_ends(now, breadth=2))
                    for demand in (2, 1, 0):
                        if can_meet(now, end, {record: demand}, breadth=2):
                            desk.set_goal(name, end, {record: demand})
                            break
            other = self.read(desk.page(), 2)
            self.assertEqual(all_told(other), all_told(desk))

    def wrong(self, line, breadth=1):
        """Check that a line is wrong, alone and behind and before other lines."""
        for before, behind in [
            ([], []), (["0;0:a;;;"], []), ([], ["wrong"]), (["0;0:a;;;", "00;1:b 2:c;1>0;;"], ["zz;0:a;;;"]),
        ]:
            page = "\n".join(before + [line] + behind)
            error = error_of(InvalidPage, read_page, page, breadth=breadth)
            self.assertEqual(error.line, len(before), page)

    def test_example_of_a_wrong_page(self):
        self.assertEqual(error_of(InvalidPage, read_page, "p;0:a 1:b;1>0;1>0;").line, 0)

    def test_fields(self):
        for line in ("p", "p;0:a", "p;0:a;;", "p;0:a;;;;", "p;0:a;;;;0", "p;;0:a;;;", ";;;;;"):
            self.wrong(line)

    def test_empty_lines(self):
        self.wrong(";;;;")
        for page, line in [
            ("\n", 0), ("\n\n", 0), ("p;0:a;;;\n", 1), ("\np;0:a;;;", 0), ("p;0:a;;;\n\nq;0:a;;;", 1),
            ("p;0:a;;;\nq;0:a;;;\n", 2), (" ", 0), ("p;0:a;;;\n ", 1),
        ]:
            self.assertEqual(error_of(InvalidPage, read_page, page).line, line)

    def test_names(self):
        for name in ("", "P", "a b", "abcdefghi", "a-", " p", "p "):
            self.wrong(f"{name};0:a;;;")
        for first, second in [("p", "p"), ("q", "p"), ("b", "aa"), ("a", "9"), ("ab", "a")]:
            page = f"{first};0:a;;;\n{second};0:a;;;"
            self.assertEqual(error_of(InvalidPage, read_page, page).line, 1)
            page = f"0;0:a;;;\n{first};0:a;;;\n{second};0:a;;;\n;"
            self.assertEqual(error_of(InvalidPage, read_page, page).line, 2)
        read_page("9;0:a;;;\na;0:a;;;\naa;0:a;;;\nb;0:a;;;")
        # Greater than the line before is not greater than an earlier one.
        page = "b;0:a;;;\na;0:a;;;\nc;0:a;;;"
        self.assertEqual(error_of(InvalidPage, read_page, page).line, 1)

    def test_texts_of_sheaves(self):
        for text in (
            "", " ", "0:a ", " 0:a", "0:a  1:b", "0:A", "0", "0:", ":a", "00:a", "-0:a", "+1:a",
            "1a:a", "0:abcdefghi", "1234567890:a", "0:a:b", "0=a", "0:a,1:b",
        ):
            self.wrong(f"p;{text};;;")

    def test_texts_of_logs(self):
        for text in (
            " ", "1>0 ", " 1>0", "1>0  1>0", "1", "1>", ">0", "1>0,", "1>00", "01>0", "-1>0",
            "1>-1", "2>1,0", "2>0,0", "1:0", "x>0", "1>0>0",
        ):
            self.wrong(f"p;0:a 1:b 2:c;{text};;", 3)
            self.wrong(f"p;0:a 1:b 2:c;;{text};", 3)

    def test_journals_that_are_not_allowed(self):
        for text in ("0>1", "1>1", "1>2", "3>0", "2>3", "1>0 1>0", "2>0,1", "2>0 2>0"):
            self.wrong(f"p;0:a 1:b 2:c;{text};;")
        read_page("p;0:a 1:b 2:c;1>0 2>0;;")

    def test_undone_deeds_that_are_not_allowed(self):
        for journal, undone in [
            ("", "0>1"), ("", "1>0 1>0"), ("1>0", "1>0"), ("1>0", "2>0 2>0"), ("2>0", "1>0"),
            ("", "2>0,1"), ("1>0", "2>1 3>0"),
        ]:
            self.wrong(f"p;0:a 1:b 2:c;{journal};{undone};")
        read_page("p;0:a 1:b 2:c;1>0;2>0 0>1;")

    def test_goals_that_are_not_of_their_form(self):
        for text in (
            " ", "0 ", " 0", "0  c=1", "c=1", "-0", "00", "+0", "0 c", "0 c=0", "0 c=01", "0 c=",
            "0 c=1 ", "0 c=1 b=1", "0 c=1 c=1", "0 C=1", "0 c=-1", "0,c=1", "1.", "x", "1234567890",
            "0 c=1234567890", "0\tc=1", "- 1", "--1",
        ):
            self.wrong(f"p;0:a 1:b 2:c;;;{text}")
        read_page("p;0:a 1:b 2:c;;;0 c=1")

    def test_goals_that_cannot_be_met(self):
        for text in ("2", "-1", "0 b=1", "1 a=1", "1 c=4", "0 z=1", "900", "-900"):
            self.wrong(f"p;0:a 1:b 2:c;;;{text}")
        # What the journal leaves counts, not the start and not the undone deeds.
        self.wrong("p;0:a 1:b 2:c;1>0;;1")
        read_page("p;0:a 1:b 2:c;;1>0;1")
        self.wrong("p;0:a 1:b 2:c;;1>0;0 b=1")
        read_page("p;0:a 1:b 2:c;1>0;;0 c=3")

    def test_goals_far_from_the_sheaf(self):
        for text in ("-999999999", "999999999", "-999999999 a=999999999"):
            self.wrong(f"p;0:a 1:b 2:c;;;{text}")
        self.wrong("p;0:a 999999999:b;;;0")
        self.wrong("p;0:a 999999999:b;;;1 b=2")
        read_page("p;999999999:a;;;999999999 a=1")
        read_page("p;-999999999:a -999999999:b;;;-999999999")

    def test_a_page_of_another_breadth(self):
        desk = desk_of(3, p=[(0, "a"), (0, "b"), (0, "c"), (2, "d")])
        desk.do("p", (3, (0, 1, 2)))
        page = desk.page()
        self.read(page, 3)
        self.read(page, 4)
        for breadth in (1, 2):
            self.wrong(page, breadth)
        self.assertEqual(error_of(InvalidPage, read_page, page).line, 0)
        desk.undo("p")
        self.wrong(desk.page(), 2)
        page = "p;0:a 0:b 0:c 2:d;;;1"
        self.read(page, 3)
        self.wrong(page, 1)

    def test_the_first_wrong_line(self):
        page = "a;0:a;;;\nb;0:a;;;5\nc;;;;\na;0:a;;;"
        self.assertEqual(error_of(InvalidPage, read_page, page).line, 1)
        # A line that is wrong only in its goal comes before one without fields.
        page = "a;0:a 1:b;1>0;;1\nb"
        self.assertEqual(error_of(InvalidPage, read_page, page).line, 0)

    def test_what_is_read_goes_on_as_before(self):
        page = "p;0:a 1:b 2:c;1>0;2>1;0 c=2"
        for act in (
            lambda desk: desk.undo("p"), lambda desk: desk.redo("p"),
            lambda desk: desk.do("p", (2, (0,))), lambda desk: desk.do("p", (2, (2,))),
            lambda desk: desk.set_goal("p", 0, {"b": 2}), lambda desk: desk.release("p"),
            lambda desk: desk.set_goal("p", 1, {}), lambda desk: desk.drop("p"),
            lambda desk: desk.lay("p", ROWS), lambda desk: desk.lay("q", ROWS),
        ):
            desk = desk_of(p=ROWS)
            desk.run("p", [(1, (0,)), (2, (1,))])
            desk.undo("p")
            desk.set_goal("p", 0, {"c": 2})
            self.assertEqual(desk.page(), page)
            other = read_page(page)
            answers = []
            for each in (desk, other):
                try:
                    answers.append((act(each), all_told(each)))
                except WornError as error:
                    answers.append((type(error), vars(error), all_told(each)))
            self.assertEqual(answers[0], answers[1])


class TestWhatIsReturned(DeskTest):
    def test_it_is_new(self):
        desk = desk_of(p=ROWS)
        desk.run("p", [(1, (0,)), (2, (1,))])
        desk.undo("p")
        desk.set_goal("p", 0, {"c": 2})
        before = all_told(desk)
        desk.names().append("x")
        desk.journal("p").append("x")
        desk.journal("p").clear()
        desk.undone("p").clear()
        desk.goal("p")[1]["c"] = 77
        desk.sheaf("p").rows().clear()
        desk.start("p").rows().clear()
        self.assertEqual(all_told(desk), before)

    def test_sheaves_that_were_returned_stay(self):
        desk = desk_of(p=ROWS)
        first = desk.sheaf("p")
        desk.do("p", (1, (0,)))
        self.assertEqual(first, STAIRS)
        self.assertEqual(desk.start("p"), STAIRS)

    def test_two_desks_share_nothing(self):
        first, second = Desk(), Desk()
        first.lay("p", ROWS)
        self.assertEqual(second.names(), [])

    def test_texts_of_pages_are_those_of_the_notation(self):
        desk = desk_of(2, p=FAR)
        desk.do("p", (2, (0, 1)))
        fields = desk.page().split(";")
        self.assertEqual(parse_sheaf(fields[1]), desk.start("p"))
        self.assertEqual(parse_log(fields[2]), desk.journal("p"))


if __name__ == "__main__":
    unittest.main()
