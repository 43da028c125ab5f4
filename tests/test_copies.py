"""Point 2: arguments stay as they are, and what is returned is new."""
import copy
import unittest

from tests.helpers import sheaf_of
from wornsheaf import (
    boxes, changes, deeds, demands, ends, keeping, lineage, lookers, notation, outcomes, stages,
    steady, wishes,
)
from wornsheaf.errors import (
    Impossible, InvalidBox, InvalidDeed, InvalidDemands, InvalidEntry, InvalidSheaf, UnknownRecord,
)
from wornsheaf.sheaf import Sheaf

ROWS = [(0, "a"), (3, "b"), (1, "a"), (0, "c")]
SHEAF = Sheaf(ROWS)
LOG = [(1, (0, 3)), (0, (2,))]
BAD_LOG = [(1, (0, 3)), (2, (0, 1)), (9, ())]
STAIRS = sheaf_of(0, 1, 2)
BOX = [(0, 2), (1, 1), (-1, 3)]
DEMANDS = {"c": 2, "z": 0, "b": 1}
WISH = {"c": (1, 2), "b": (0, 1), "z": (0, 0)}
SHORT_WISH = {"b": (0, 0), "c": (0, 1)}

# Questions that take a list or a dict: the answer, and what is handed in.
ASKED = [
    (lambda rows: Sheaf(rows).rows(), [ROWS]),
    (lambda log: deeds.replay(SHEAF, log, breadth=2).rows(), [LOG]),
    (lambda log: [s.rows() for s in deeds.each_state(SHEAF, log, breadth=2)], [LOG]),
    (lambda log: deeds.is_complete(SHEAF, log, breadth=2), [LOG]),
    (lambda log: deeds.is_complete(SHEAF, log, breadth=2), [BAD_LOG]),
    (lambda log: lineage.lineage(4, log), [LOG]),
    (lambda log: lineage.first_shares(4, log), [LOG]),
    (lambda log: notation.format_log(log), [LOG]),
    (lambda told: notation.format_demands(told), [{"b": 2, "a": 0, "c": 1}]),
    (lambda first, second: changes.side_by_side(4, first, second), [LOG, BAD_LOG]),
    (lambda box: boxes.box_ends(box, breadth=2), [BOX]),
    (lambda box: boxes.sure_ends(box, breadth=2), [BOX]),
    (lambda box: boxes.low_ends(box), [BOX]),
    (lambda box: boxes.high_ends(box), [BOX]),
    (lambda box: boxes.list_with_end(box, 1), [BOX]),
    (lambda box: boxes.list_without_end(box, 9), [BOX]),
    (lambda box: boxes.list_with_low(box, 1), [BOX]),
    (lambda box: boxes.list_with_high(box, 1), [BOX]),
    (lambda counts: boxes.drops(counts), [[2, 1, 3]]),
    (lambda counts: boxes.kinds_with_drop(counts, 2), [[2, 1, 3]]),
    (lambda told: demands.set_aside(STAIRS, 0, told), [DEMANDS]),
    (lambda aside: demands.footing(STAIRS, aside), [[2, 0]]),
    (lambda told: demands.trouble(STAIRS, 0, told), [DEMANDS]),
    (lambda told: demands.can_meet(STAIRS, 1, told), [DEMANDS]),
    (lambda told: demands.met_ends(STAIRS, told), [DEMANDS]),
    (lambda told: stages.plan(STAIRS, 1, told), [DEMANDS]),
    (lambda told: stages.full_shares(STAIRS, 1, told), [DEMANDS]),
    (lambda told, log: lookers.look_at_plan(STAIRS, 1, told, log), [DEMANDS, [(2, (0,))]]),
    (lambda told: lookers.look_at_reason(STAIRS, 0, told, ("height", 1, 1)), [DEMANDS]),
    (lambda kept: keeping.keepsakes(STAIRS, kept), [["c", "b"]]),
    (lambda kept: keeping.kept_floor(STAIRS, kept), [["c", "b"]]),
    (lambda kept: keeping.kept_ends(STAIRS, kept), [["c", "b"]]),
    (lambda kept, log: keeping.kept_floors(STAIRS, kept, log), [["c", "b"], [(2, (0,))]]),
    (lambda prices: keeping.dearest_kept(STAIRS, 1, prices), [{"c": 2, "b": 3, "a": 9}]),
    (lambda kept: keeping.swap_choices(STAIRS, 1, kept, "a"), [["c", "b"]]),
    (lambda told: keeping.greatest_share(STAIRS, 1, told, "b"), [DEMANDS]),
    (lambda told: keeping.greatest_share(STAIRS, 1, told, "c"), [DEMANDS]),
    (lambda wish: wishes.worths(STAIRS, 0, wish), [WISH]),
    (lambda wish: wishes.wish_trouble(STAIRS, 1, wish), [SHORT_WISH]),
    (lambda wish: wishes.greatest_within(STAIRS, 1, wish), [WISH]),
    (lambda wish: wishes.grant(STAIRS, 1, wish), [WISH]),
    (lambda wish: wishes.look_at_short(STAIRS, 1, wish, ("short", 1, (None,))), [SHORT_WISH]),
    (lambda numbers: outcomes.is_outcome(STAIRS, 1, numbers), [[0, 1, 2]]),
    (lambda numbers: outcomes.place_of(STAIRS, 1, numbers), [[0, 1, 2]]),
    (lambda numbers: outcomes.next_outcome(STAIRS, 1, numbers), [[0, 1, 2]]),
]

# Questions that are answered with a list or a dict.
ANSWERED = {
    "rows": lambda: SHEAF.rows(),
    "records": lambda: SHEAF.records(),
    "shares": lambda: SHEAF.shares(),
    "sheets_of": lambda: SHEAF.sheets_of("a"),
    "no sheets": lambda: SHEAF.sheets_of("z"),
    "iteration": lambda: list(SHEAF),
    "single_deeds": lambda: deeds.single_deeds(SHEAF),
    "no single deeds": lambda: deeds.single_deeds(sheaf_of(1, 1)),
    "lineage": lambda: lineage.lineage(4, LOG),
    "first_shares": lambda: lineage.first_shares(4, LOG),
    "parse_log": lambda: notation.parse_log("2>0 1>0,2"),
    "parse_empty_log": lambda: notation.parse_log(""),
    "parse_demands": lambda: notation.parse_demands("a=1 b=2"),
    "parse_no_demands": lambda: notation.parse_demands(""),
    "possible_ends": lambda: ends.possible_ends(SHEAF, breadth=3),
    "near_log": lambda: steady.near_log(SHEAF),
    "far_log": lambda: steady.far_log(SHEAF),
    "no near log": lambda: steady.near_log(sheaf_of(1, 1)),
    "no far log": lambda: steady.far_log(sheaf_of(1, 1)),
    "sheets_to_lower": lambda: changes.sheets_to_lower(SHEAF, -3),
    "no sheets_to_lower": lambda: changes.sheets_to_lower(SHEAF, 9),
    "side_by_side": lambda: changes.side_by_side(4, LOG, LOG),
    "only the first log": lambda: changes.side_by_side(4, LOG, []),
    "only the second log": lambda: changes.side_by_side(0, [], LOG),
    "box_ends": lambda: boxes.box_ends(BOX),
    "sure_ends": lambda: boxes.sure_ends(BOX, breadth=2),
    "low_ends": lambda: boxes.low_ends(BOX),
    "high_ends": lambda: boxes.high_ends(BOX),
    "list_with_end": lambda: boxes.list_with_end(BOX, 1),
    "list_without_end below": lambda: boxes.list_without_end(BOX, -1),
    "list_without_end above": lambda: boxes.list_without_end(BOX, 9),
    "list_with_low": lambda: boxes.list_with_low(BOX, 0),
    "list_with_high": lambda: boxes.list_with_high(BOX, 1),
    "drops": lambda: boxes.drops([2, 1, 3]),
    "kinds_with_drop": lambda: boxes.kinds_with_drop([2, 1, 3], 3),
    "set_aside": lambda: demands.set_aside(STAIRS, 0, DEMANDS),
    "nothing set aside": lambda: demands.set_aside(STAIRS, 0, {}),
    "met_ends": lambda: demands.met_ends(STAIRS, DEMANDS),
    "no met_ends": lambda: demands.met_ends(STAIRS, {"z": 1}),
    "plan": lambda: stages.plan(STAIRS, 0, {"c": 3}),
    "empty plan": lambda: stages.plan(sheaf_of(1, 1), 1, {}),
    "full_shares": lambda: stages.full_shares(STAIRS, 1, DEMANDS),
    "keepsakes": lambda: keeping.keepsakes(SHEAF, ["a", "b"]),
    "no keepsakes": lambda: keeping.keepsakes(SHEAF, []),
    "kept_ends": lambda: keeping.kept_ends(SHEAF, ["b"], breadth=2),
    "no kept_ends": lambda: keeping.kept_ends(STAIRS, ["a", "b"]),
    "kept_floors": lambda: keeping.kept_floors(SHEAF, ["b"], LOG, breadth=2),
    "dearest_kept": lambda: keeping.dearest_kept(STAIRS, 1, {"c": 2, "b": 3}),
    "no dearest_kept": lambda: keeping.dearest_kept(STAIRS, 1, {}),
    "swap_choices": lambda: keeping.swap_choices(sheaf_of(0, 0, 1), 0, ["a"], "b")[1],
    "no swap_choices": lambda: keeping.swap_choices(sheaf_of(0, 0, 1), 0, ["a"], "c")[1],
    "worths": lambda: wishes.worths(STAIRS, 0, WISH),
    "no worths": lambda: wishes.worths(STAIRS, 9, WISH),
    "grant": lambda: wishes.grant(STAIRS, 1, WISH),
    "outcome_order": lambda: outcomes.outcome_order(STAIRS),
    "outcome_at": lambda: outcomes.outcome_at(STAIRS, 1, 0),
    "next_outcome": lambda: outcomes.next_outcome(sheaf_of(0, 0, 1), 0, [0, 1, 2]),
    "each_outcome": lambda: list(outcomes.each_outcome(sheaf_of(0, 0, 1), 0)),
    "the first of each_outcome": lambda: next(outcomes.each_outcome(STAIRS, 0)),
}


def spoil(thing):
    """Change a list or a dict in every way that is at hand."""
    if isinstance(thing, dict):
        for key in thing:
            thing[key] = -99
        thing["zz"] = 77
    else:
        thing.reverse()
        thing.append("spoiled")
        thing[0] = "spoiled"


class TestCopies(unittest.TestCase):
    def test_what_is_handed_in_stays(self):
        for function, things in ASKED:
            with self.subTest(things=things):
                handed = copy.deepcopy(things)
                first = function(*handed)
                self.assertEqual(handed, things)
                for thing in handed:
                    spoil(thing)
                self.assertEqual(function(*copy.deepcopy(things)), first)

    def test_errors_leave_what_is_handed_in(self):
        rows = [(0, "a"), (1, "B"), (2, "")]
        with self.assertRaises(InvalidSheaf):
            Sheaf(rows)
        self.assertEqual(rows, [(0, "a"), (1, "B"), (2, "")])
        log = list(BAD_LOG)
        for ask in (
            lambda: deeds.replay(SHEAF, log, breadth=2),
            lambda: list(deeds.each_state(SHEAF, log, breadth=2)),
            lambda: lineage.lineage(4, log),
            lambda: lineage.first_shares(4, log),
        ):
            with self.assertRaises(InvalidDeed):
                ask()
            self.assertEqual(log, BAD_LOG)
        self.assertEqual(SHEAF.rows(), ROWS)

    def test_errors_leave_demands_lists_and_boxes(self):
        refused = [
            (Impossible, lambda told: stages.plan(STAIRS, 0, told), {"b": 1, "z": 0}),
            (Impossible, lambda told: keeping.greatest_share(STAIRS, 0, told, "c"), {"b": 1}),
            (InvalidDemands, lambda told: demands.met_ends(STAIRS, told), {"b": -1, "a": -1}),
            (InvalidDemands, lambda told: wishes.grant(STAIRS, 0, told), {"b": (2, 1)}),
            (Impossible, lambda told: wishes.grant(STAIRS, 1, told), dict(SHORT_WISH)),
            (UnknownRecord, lambda told: keeping.keepsakes(STAIRS, told), ["c", "z"]),
            (UnknownRecord, lambda told: keeping.dearest_kept(STAIRS, 1, told), {"z": 1, "c": 2}),
            (InvalidBox, lambda told: boxes.box_ends(told), [(0, 1), (1, 0)]),
            (InvalidDeed, lambda told: keeping.kept_floors(STAIRS, [], told), list(BAD_LOG)),
        ]
        for error, ask, told in refused:
            handed = copy.deepcopy(told)
            with self.assertRaises(error):
                ask(handed)
            self.assertEqual(handed, told)

    def test_outcomes_that_were_yielded_stay(self):
        found = []
        for numbers in outcomes.each_outcome(sheaf_of(0, 0, 1), 0, breadth=2):
            found.append(list(numbers))
            spoil(numbers)
        self.assertEqual(found, [[0, 0, 3], [0, 1, 2], [1, 0, 2]])

    def test_what_is_returned_is_new(self):
        for name, function in ANSWERED.items():
            with self.subTest(name):
                first = function()
                wanted = copy.deepcopy(first)
                second = function()
                self.assertEqual(second, wanted)
                self.assertIsNot(first, second)
                spoil(first)
                self.assertEqual(second, wanted)
                self.assertEqual(function(), wanted)
        self.assertEqual(SHEAF.rows(), ROWS)
        self.assertEqual((SHEAF.top, SHEAF.bottom, len(SHEAF)), (3, 0, 4))

    def test_the_sheaf_keeps_its_own_rows(self):
        rows = list(ROWS)
        sheaf = Sheaf(rows)
        self.assertIsNot(sheaf.rows(), rows)
        spoil(rows)
        self.assertEqual(sheaf.rows(), ROWS)
        self.assertEqual(sheaf.shares(), {"a": 2, "b": 1, "c": 1})
        self.assertEqual(sheaf.sheets_of("a"), [0, 2])

    def test_bound_sheaves_share_nothing(self):
        first, second = Sheaf(ROWS), sheaf_of(5, 6)
        bound = first + second
        spoil(bound.rows())
        spoil(first.rows())
        self.assertEqual(bound.rows(), ROWS + [(5, "a"), (6, "b")])
        self.assertEqual(first.rows(), ROWS)

    def test_functions_leave_the_sheaf(self):
        after, entry = lineage.apply_with_entry(SHEAF, (1, (0, 2)), breadth=2)
        deeds.apply_deed(SHEAF, (1, (0,)))
        deeds.is_allowed(SHEAF, (1, (0,)))
        self.assertEqual(SHEAF.rows(), ROWS)
        left = after.rows()
        lineage.undo_entry(after, entry)
        with self.assertRaises(InvalidEntry):
            lineage.undo_entry(after, (entry[0], entry[1][:1]))
        lineage.past_deed(after)
        self.assertEqual(after.rows(), left)

    def test_a_log_that_is_changed_while_its_states_are_read(self):
        log = list(LOG)
        states = deeds.each_state(SHEAF, log, breadth=2)
        found = [next(states).rows()]
        log.clear()
        found += [state.rows() for state in states]
        wanted = [state.rows() for state in deeds.each_state(SHEAF, LOG, breadth=2)]
        self.assertEqual(found, wanted)
        self.assertEqual(len(found), 3)

    def test_states_that_were_yielded_stay(self):
        first, second, third = deeds.each_state(SHEAF, LOG, breadth=2)
        spoil(first.rows())
        self.assertEqual(first.rows(), ROWS)
        self.assertEqual(second.rows(), [(2, "b"), (2, "b"), (1, "a"), (2, "b")])
        self.assertEqual(third.rows(), [(1, "b"), (2, "b"), (1, "b"), (2, "b")])


if __name__ == "__main__":
    unittest.main()
