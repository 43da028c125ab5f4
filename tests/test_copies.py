"""Point 2: arguments stay as they are, and what is returned is new."""
import copy
import unittest

from tests.helpers import sheaf_of
from wornsheaf import (
    boxes, changes, claims, contests, deeds, demands, ends, guide, keeping, lineage, longest,
    lookers, notation, outcomes, rounds, shortest, stages, steady, traces, wishes,
)
from wornsheaf.desk import Desk, read_page
from wornsheaf.errors import (
    ContradictoryLog, Impossible, InvalidBox, InvalidDeed, InvalidDemands, InvalidEntry,
    InvalidRound, InvalidSheaf, UnknownName, UnknownRecord,
)
from wornsheaf.sheaf import Sheaf

ROWS = [(0, "a"), (3, "b"), (1, "a"), (0, "c")]
SHEAF = Sheaf(ROWS)
LOG = [(1, (0, 3)), (0, (2,))]
BAD_LOG = [(1, (0, 3)), (2, (0, 1)), (9, ())]
STAIRS = sheaf_of(0, 1, 2)
BOX = [(0, 2), (1, 1), (-1, 3)]
DEMANDS = {"c": 2, "z": 0, "b": 1}
WISH = {"c": (1, 2), "b": (0, 1), "z": (0, 0)}
SHORT_WISH = {"b": (0, 0), "c": (0, 1)}
RING_LOG = [(1, (0,)), (2, (3,)), (1, (0,))]
ROUNDS = [[(1, (0,))], [], [(0, (3,))]]
STEPS = [("p", (1, (0,))), ("q", (1, (0,))), ("p", (2, (1,)))]


def desk_of_two():
    desk = Desk()
    desk.lay("p", STAIRS.rows())
    desk.lay("q", STAIRS.rows())
    return desk


def worked_desk():
    return read_page("p;0:a 1:b 2:c;1>0;2>1 2>0;0 c=2\nq;0:a 1:b;;;")


def kept_desk(name, method, *things):
    """Return what a method of a desk and then the page of the desk tell."""
    desk = desk_of_two()
    return getattr(desk, method)(name, *things), desk.page()


def all_of_desk(steps):
    """Return what a desk tells after these steps."""
    desk = desk_of_two()
    desk.run_all(steps)
    return desk.page()


def told_claim(claim):
    return claim.kind, claim.end, claim.subject(), claim.paper()


def waiting_contest():
    contest = contests.Contest(STAIRS)
    for index in (1, 0):
        contest.choose(index)
    return contest


DESK = worked_desk()
CONTEST = waiting_contest()
MEETS = claims.Claim("meets", 1, {"c": 2}, [(2, (0,))])
GRANTS = claims.Claim("grants", 1, {"c": (1, 2)}, {"c": 2, "b": 1})
IN_ROUNDS = claims.Claim("rounds", 1, 1, [[(2, (0,))], []])

# Questions that take a list or a dict: the answer, and what is handed in.
ASKED = [
    (lambda rows: Sheaf(rows).rows(), [ROWS]),
    (lambda log: deeds.replay(SHEAF, log, breadth=2).rows(), [LOG]),
    (lambda log: [s.rows() for s in deeds.each_state(SHEAF, log, breadth=2)], [LOG]),
    (lambda log: deeds.is_complete(SHEAF, log, breadth=2), [LOG]),
    (lambda log: deeds.is_complete(SHEAF, log, breadth=2), [BAD_LOG]),
    (lambda log: lineage.lineage(4, log), [LOG]),
    (lambda log: lineage.first_shares(4, log), [LOG]),
    (lambda log: notation.format_log(log), [LOG]),
    (lambda told: notation.format_demands(told), [{"b": 2, "a": 0, "c": 1}]),
    (lambda first, second: changes.side_by_side(4, first, second), [LOG, BAD_LOG]),
    (lambda box: boxes.box_ends(box, breadth=2), [BOX]),
    (lambda box: boxes.sure_ends(box, breadth=2), [BOX]),
    (lambda box: boxes.low_ends(box), [BOX]),
    (lambda box: boxes.high_ends(box), [BOX]),
    (lambda box: boxes.list_with_end(box, 1), [BOX]),
    (lambda box: boxes.list_without_end(box, 9), [BOX]),
    (lambda box: boxes.list_with_low(box, 1), [BOX]),
    (lambda box: boxes.list_with_high(box, 1), [BOX]),
    (lambda counts: boxes.drops(counts), [[2, 1, 3]]),
    (lambda counts: boxes.kinds_with_drop(counts, 2), [[2, 1, 3]]),
    (lambda told: demands.set_aside(STAIRS, 0, told), [DEMANDS]),
    (lambda aside: demands.footing(STAIRS, aside), [[2, 0]]),
    (lambda told: demands.trouble(STAIRS, 0, told), [DEMANDS]),
    (lambda told: demands.can_meet(STAIRS, 1, told), [DEMANDS]),
    (lambda told: demands.met_ends(STAIRS, told), [DEMANDS]),
    (lambda told: stages.plan(STAIRS, 1, told), [DEMANDS]),
    (lambda told: stages.full_shares(STAIRS, 1, told), [DEMANDS]),
    (lambda told, log: lookers.look_at_plan(STAIRS, 1, told, log), [DEMANDS, [(2, (0,))]]),
    (lambda told: lookers.look_at_reason(STAIRS, 0, told, ("height", 1, 1)), [DEMANDS]),
    (lambda kept: keeping.keepsakes(STAIRS, kept), [["c", "b"]]),
    (lambda kept: keeping.kept_floor(STAIRS, kept), [["c", "b"]]),
    (lambda kept: keeping.kept_ends(STAIRS, kept), [["c", "b"]]),
    (lambda kept, log: keeping.kept_floors(STAIRS, kept, log), [["c", "b"], [(2, (0,))]]),
    (lambda prices: keeping.dearest_kept(STAIRS, 1, prices), [{"c": 2, "b": 3, "a": 9}]),
    (lambda kept: keeping.swap_choices(STAIRS, 1, kept, "a"), [["c", "b"]]),
    (lambda told: keeping.greatest_share(STAIRS, 1, told, "b"), [DEMANDS]),
    (lambda told: keeping.greatest_share(STAIRS, 1, told, "c"), [DEMANDS]),
    (lambda wish: wishes.worths(STAIRS, 0, wish), [WISH]),
    (lambda wish: wishes.wish_trouble(STAIRS, 1, wish), [SHORT_WISH]),
    (lambda wish: wishes.greatest_within(STAIRS, 1, wish), [WISH]),
    (lambda wish: wishes.grant(STAIRS, 1, wish), [WISH]),
    (lambda wish: wishes.look_at_short(STAIRS, 1, wish, ("short", 1, (None,))), [SHORT_WISH]),
    (lambda numbers: outcomes.is_outcome(STAIRS, 1, numbers), [[0, 1, 2]]),
    (lambda numbers: outcomes.place_of(STAIRS, 1, numbers), [[0, 1, 2]]),
    (lambda numbers: outcomes.next_outcome(STAIRS, 1, numbers), [[0, 1, 2]]),
    (lambda log: traces.lines(4, log), [RING_LOG]),
    (lambda log: traces.find_ring(4, log), [RING_LOG]),
    (lambda log, ring: traces.is_ring(4, log, ring), [RING_LOG, [(2, 0)]]),
    (lambda log: traces.least_start(4, log), [LOG]),
    (lambda log: traces.told_gap(4, log, 1, 0), [LOG]),
    (lambda log: traces.told_heights(4, log), [RING_LOG]),
    (lambda log: shortest.lifts_across(SHEAF, log, 1, breadth=2), [LOG]),
    (lambda told: rounds.play_rounds(SHEAF, told).rows(), [ROUNDS]),
    (lambda kept: contests.Warden(kept)(STAIRS, 2), [["c", "z"]]),
    (lambda picks: contests.Picker("target", picks)(STAIRS, 2), [[1, 2]]),
    (lambda kept: contests.can_save(STAIRS, kept), [["c", "b"]]),
    (lambda prices: contests.dearest_saved(STAIRS, prices), [{"c": 2, "b": 3, "a": 9}]),
    (lambda told: guide.safe_deeds(STAIRS, 0, told), [{"c": 3, "z": 0}]),
    (lambda log, told: guide.spoiled_at(STAIRS, log, 0, told), [[(2, (0,))], {"c": 3}]),
    (lambda told, picks: guide.guided_log(STAIRS, 0, told, picks), [{"c": 3, "z": 0}, [1, 0, 7]]),
    (lambda told, log: told_claim(claims.Claim("meets", 1, told, log)), [DEMANDS, LOG]),
    (lambda told: told_claim(claims.Claim("rounds", 1, 3, told)), [ROUNDS]),
    (lambda told: told_claim(claims.claim_demands(STAIRS, 1, told)), [DEMANDS]),
    (lambda told: told_claim(claims.claim_demands(STAIRS, 1, told)), [{"c": 2, "z": 0}]),
    (lambda wish: told_claim(claims.claim_wish(STAIRS, 1, wish)), [WISH]),
    (lambda wish: told_claim(claims.claim_wish(STAIRS, 1, wish)), [SHORT_WISH]),
    (lambda rows: kept_desk("r", "lay", rows), [ROWS]),
    (lambda told: kept_desk("p", "set_goal", 1, told), [{"c": 2, "z": 0}]),
    (lambda log: kept_desk("p", "run", log), [[(1, (0,)), (2, (1,))]]),
    (lambda steps: all_of_desk(steps), [STEPS]),
    (lambda told: told_claim(kept_desk("p", "answer", 1, told)[0]), [DEMANDS]),
]

# Questions that are answered with a list or a dict.
ANSWERED = {
    "rows": lambda: SHEAF.rows(),
    "records": lambda: SHEAF.records(),
    "shares": lambda: SHEAF.shares(),
    "sheets_of": lambda: SHEAF.sheets_of("a"),
    "no sheets": lambda: SHEAF.sheets_of("z"),
    "iteration": lambda: list(SHEAF),
    "single_deeds": lambda: deeds.single_deeds(SHEAF),
    "no single deeds": lambda: deeds.single_deeds(sheaf_of(1, 1)),
    "lineage": lambda: lineage.lineage(4, LOG),
    "first_shares": lambda: lineage.first_shares(4, LOG),
    "parse_log": lambda: notation.parse_log("2>0 1>0,2"),
    "parse_empty_log": lambda: notation.parse_log(""),
    "parse_demands": lambda: notation.parse_demands("a=1 b=2"),
    "parse_no_demands": lambda: notation.parse_demands(""),
    "possible_ends": lambda: ends.possible_ends(SHEAF, breadth=3),
    "near_log": lambda: steady.near_log(SHEAF),
    "far_log": lambda: steady.far_log(SHEAF),
    "no near log": lambda: steady.near_log(sheaf_of(1, 1)),
    "no far log": lambda: steady.far_log(sheaf_of(1, 1)),
    "sheets_to_lower": lambda: changes.sheets_to_lower(SHEAF, -3),
    "no sheets_to_lower": lambda: changes.sheets_to_lower(SHEAF, 9),
    "side_by_side": lambda: changes.side_by_side(4, LOG, LOG),
    "only the first log": lambda: changes.side_by_side(4, LOG, []),
    "only the second log": lambda: changes.side_by_side(0, [], LOG),
    "box_ends": lambda: boxes.box_ends(BOX),
    "sure_ends": lambda: boxes.sure_ends(BOX, breadth=2),
    "low_ends": lambda: boxes.low_ends(BOX),
    "high_ends": lambda: boxes.high_ends(BOX),
    "list_with_end": lambda: boxes.list_with_end(BOX, 1),
    "list_without_end below": lambda: boxes.list_without_end(BOX, -1),
    "list_without_end above": lambda: boxes.list_without_end(BOX, 9),
    "list_with_low": lambda: boxes.list_with_low(BOX, 0),
    "list_with_high": lambda: boxes.list_with_high(BOX, 1),
    "drops": lambda: boxes.drops([2, 1, 3]),
    "kinds_with_drop": lambda: boxes.kinds_with_drop([2, 1, 3], 3),
    "set_aside": lambda: demands.set_aside(STAIRS, 0, DEMANDS),
    "nothing set aside": lambda: demands.set_aside(STAIRS, 0, {}),
    "met_ends": lambda: demands.met_ends(STAIRS, DEMANDS),
    "no met_ends": lambda: demands.met_ends(STAIRS, {"z": 1}),
    "plan": lambda: stages.plan(STAIRS, 0, {"c": 3}),
    "empty plan": lambda: stages.plan(sheaf_of(1, 1), 1, {}),
    "full_shares": lambda: stages.full_shares(STAIRS, 1, DEMANDS),
    "keepsakes": lambda: keeping.keepsakes(SHEAF, ["a", "b"]),
    "no keepsakes": lambda: keeping.keepsakes(SHEAF, []),
    "kept_ends": lambda: keeping.kept_ends(SHEAF, ["b"], breadth=2),
    "no kept_ends": lambda: keeping.kept_ends(STAIRS, ["a", "b"]),
    "kept_floors": lambda: keeping.kept_floors(SHEAF, ["b"], LOG, breadth=2),
    "dearest_kept": lambda: keeping.dearest_kept(STAIRS, 1, {"c": 2, "b": 3}),
    "no dearest_kept": lambda: keeping.dearest_kept(STAIRS, 1, {}),
    "swap_choices": lambda: keeping.swap_choices(sheaf_of(0, 0, 1), 0, ["a"], "b")[1],
    "no swap_choices": lambda: keeping.swap_choices(sheaf_of(0, 0, 1), 0, ["a"], "c")[1],
    "worths": lambda: wishes.worths(STAIRS, 0, WISH),
    "no worths": lambda: wishes.worths(STAIRS, 9, WISH),
    "grant": lambda: wishes.grant(STAIRS, 1, WISH),
    "outcome_order": lambda: outcomes.outcome_order(STAIRS),
    "outcome_at": lambda: outcomes.outcome_at(STAIRS, 1, 0),
    "next_outcome": lambda: outcomes.next_outcome(sheaf_of(0, 0, 1), 0, [0, 1, 2]),
    "each_outcome": lambda: list(outcomes.each_outcome(sheaf_of(0, 0, 1), 0)),
    "the first of each_outcome": lambda: next(outcomes.each_outcome(STAIRS, 0)),
    "lines": lambda: traces.lines(4, LOG),
    "no lines": lambda: traces.lines(4, []),
    "find_ring": lambda: traces.find_ring(4, RING_LOG),
    "least_start": lambda: traces.least_start(4, LOG),
    "told_heights": lambda: traces.told_heights(4, RING_LOG),
    "crossings": lambda: shortest.crossings(STAIRS, 0),
    "shortest_log": lambda: shortest.shortest_log(STAIRS, 0),
    "no shortest_log": lambda: shortest.shortest_log(sheaf_of(1, 1), 1),
    "longest_log": lambda: longest.longest_log(STAIRS),
    "no longest_log": lambda: longest.longest_log(sheaf_of(1, 1)),
    "round_plan": lambda: rounds.round_plan(sheaf_of(0, 0, 0, 4), 2),
    "no round_plan": lambda: rounds.round_plan(STAIRS, 0),
    "done": lambda: CONTEST.done(),
    "choices": lambda: CONTEST.choices(),
    "play": lambda: contests.play(
        waiting_contest(), contests.LowSide("source"), contests.Picker("target", []),
    ),
    "play of a contest that is over": lambda: contests.play(CONTEST_OVER, None, None),
    "dearest_saved": lambda: contests.dearest_saved(STAIRS, {"c": 2}),
    "safe_deeds": lambda: guide.safe_deeds(STAIRS, 0, {"c": 3}),
    "guided_log": lambda: guide.guided_log(STAIRS, 0, {"c": 3}, []),
    "demands of a claim": lambda: MEETS.subject(),
    "log of a claim": lambda: MEETS.paper(),
    "wish of a claim": lambda: GRANTS.subject(),
    "shares of a claim": lambda: GRANTS.paper(),
    "rounds of a claim": lambda: IN_ROUNDS.paper(),
    "claim_demands": lambda: claims.claim_demands(STAIRS, 1, {"c": 2}).paper(),
    "claim_wish": lambda: claims.claim_wish(STAIRS, 1, WISH).paper(),
    "claim_shortest": lambda: claims.claim_shortest(STAIRS, 0).paper(),
    "claim_rounds": lambda: claims.claim_rounds(sheaf_of(0, 0, 0, 4), 2).paper(),
    "names": lambda: DESK.names(),
    "journal": lambda: DESK.journal("p"),
    "empty journal": lambda: DESK.journal("q"),
    "undone": lambda: DESK.undone("p"),
    "nothing undone": lambda: DESK.undone("q"),
    "demands of a goal": lambda: DESK.goal("p")[1],
    "finish": lambda: worked_desk().finish("p"),
    "answer": lambda: DESK.answer("p", 0, {"c": 2}).paper(),
}
CONTEST_OVER = contests.Contest(sheaf_of(0, 1))
contests.play(CONTEST_OVER, contests.LowSide("source"), contests.LowSide("target"))


def spoil(thing):
    """Change a list or a dict in every way that is at hand, lists in it first."""
    if isinstance(thing, list):
        for item in thing:
            if isinstance(item, (list, dict)):
                spoil(item)
    if isinstance(thing, dict):
        for key in thing:
            thing[key] = -99
        thing["zz"] = 77
    else:
        thing.reverse()
        thing.append("spoiled")
        thing[0] = "spoiled"


class TestCopies(unittest.TestCase):
    def test_what_is_handed_in_stays(self):
        for function, things in ASKED:
            with self.subTest(things=things):
                handed = copy.deepcopy(things)
                first = function(*handed)
                self.assertEqual(handed, things)
                for thing in handed:
                    spoil(thing)
                self.assertEqual(function(*copy.deepcopy(things)), first)

    def test_errors_leave_what_is_handed_in(self):
        rows = [(0, "a"), (1, "B"), (2, "")]
        with self.assertRaises(InvalidSheaf):
            Sheaf(rows)
        self.assertEqual(rows, [(0, "a"), (1, "B"), (2, "")])
        log = list(BAD_LOG)
        for ask in (
            lambda: deeds.replay(SHEAF, log, breadth=2),
            lambda: list(deeds.each_state(SHEAF, log, breadth=2)),
            lambda: lineage.lineage(4, log),
            lambda: lineage.first_shares(4, log),
        ):
            with self.assertRaises(InvalidDeed):
                ask()
            self.assertEqual(log, BAD_LOG)
        self.assertEqual(SHEAF.rows(), ROWS)

    def test_errors_leave_demands_lists_and_boxes(self):
        refused = [
            (Impossible, lambda told: stages.plan(STAIRS, 0, told), {"b": 1, "z": 0}),
            (Impossible, lambda told: keeping.greatest_share(STAIRS, 0, told, "c"), {"b": 1}),
            (InvalidDemands, lambda told: demands.met_ends(STAIRS, told), {"b": -1, "a": -1}),
            (InvalidDemands, lambda told: wishes.grant(STAIRS, 0, told), {"b": (2, 1)}),
            (Impossible, lambda told: wishes.grant(STAIRS, 1, told), dict(SHORT_WISH)),
            (UnknownRecord, lambda told: keeping.keepsakes(STAIRS, told), ["c", "z"]),
            (UnknownRecord, lambda told: keeping.dearest_kept(STAIRS, 1, told), {"z": 1, "c": 2}),
            (InvalidBox, lambda told: boxes.box_ends(told), [(0, 1), (1, 0)]),
            (InvalidDeed, lambda told: keeping.kept_floors(STAIRS, [], told), list(BAD_LOG)),
            (ContradictoryLog, lambda told: traces.least_start(4, told), RING_LOG),
            (InvalidDeed, lambda told: traces.find_ring(4, told), BAD_LOG),
            (InvalidDeed, lambda told: shortest.lifts_across(SHEAF, told, 0), BAD_LOG),
            (InvalidRound, lambda told: rounds.play_rounds(STAIRS, told), ROUNDS + [LOG]),
            (UnknownRecord, lambda told: contests.can_save(STAIRS, told), ["c", "z"]),
            (Impossible, lambda told: guide.guided_log(STAIRS, 1, told, []), {"a": 1, "z": 0}),
            (InvalidDeed, lambda told: DESK.run("p", told), BAD_LOG),
            (UnknownName, lambda told: desk_of_two().run_all(told), STEPS + [("r", (1, (0,)))]),
            (Impossible, lambda told: DESK.set_goal("p", 0, told), {"a": 1, "z": 0}),
            (InvalidSheaf, lambda told: DESK.lay("r", told), ROWS + [(0, "")]),
        ]
        for error, ask, told in refused:
            handed = copy.deepcopy(told)
            with self.assertRaises(error):
                ask(handed)
            self.assertEqual(handed, told)

    def test_outcomes_that_were_yielded_stay(self):
        found = []
        for numbers in outcomes.each_outcome(sheaf_of(0, 0, 1), 0, breadth=2):
            found.append(list(numbers))
            spoil(numbers)
        self.assertEqual(found, [[0, 0, 3], [0, 1, 2], [1, 0, 2]])

    def test_what_is_returned_is_new(self):
        for name, function in ANSWERED.items():
            with self.subTest(name):
                first = function()
                wanted = copy.deepcopy(first)
                second = function()
                self.assertEqual(second, wanted)
                self.assertIsNot(first, second)
                spoil(first)
                self.assertEqual(second, wanted)
                self.assertEqual(function(), wanted)
        self.assertEqual(SHEAF.rows(), ROWS)
        self.assertEqual((SHEAF.top, SHEAF.bottom, len(SHEAF)), (3, 0, 4))

    def test_the_sheaf_keeps_its_own_rows(self):
        rows = list(ROWS)
        sheaf = Sheaf(rows)
        self.assertIsNot(sheaf.rows(), rows)
        spoil(rows)
        self.assertEqual(sheaf.rows(), ROWS)
        self.assertEqual(sheaf.shares(), {"a": 2, "b": 1, "c": 1})
        self.assertEqual(sheaf.sheets_of("a"), [0, 2])

    def test_bound_sheaves_share_nothing(self):
        first, second = Sheaf(ROWS), sheaf_of(5, 6)
        bound = first + second
        spoil(bound.rows())
        spoil(first.rows())
        self.assertEqual(bound.rows(), ROWS + [(5, "a"), (6, "b")])
        self.assertEqual(first.rows(), ROWS)

    def test_functions_leave_the_sheaf(self):
        after, entry = lineage.apply_with_entry(SHEAF, (1, (0, 2)), breadth=2)
        deeds.apply_deed(SHEAF, (1, (0,)))
        deeds.is_allowed(SHEAF, (1, (0,)))
        self.assertEqual(SHEAF.rows(), ROWS)
        left = after.rows()
        lineage.undo_entry(after, entry)
        with self.assertRaises(InvalidEntry):
            lineage.undo_entry(after, (entry[0], entry[1][:1]))
        lineage.past_deed(after)
        self.assertEqual(after.rows(), left)

    def test_a_log_that_is_changed_while_its_states_are_read(self):
        log = list(LOG)
        states = deeds.each_state(SHEAF, log, breadth=2)
        found = [next(states).rows()]
        log.clear()
        found += [state.rows() for state in states]
        wanted = [state.rows() for state in deeds.each_state(SHEAF, LOG, breadth=2)]
        self.assertEqual(found, wanted)
        self.assertEqual(len(found), 3)

    def test_states_that_were_yielded_stay(self):
        first, second, third = deeds.each_state(SHEAF, LOG, breadth=2)
        spoil(first.rows())
        self.assertEqual(first.rows(), ROWS)
        self.assertEqual(second.rows(), [(2, "b"), (2, "b"), (1, "a"), (2, "b")])
        self.assertEqual(third.rows(), [(1, "b"), (2, "b"), (1, "b"), (2, "b")])


if __name__ == "__main__":
    unittest.main()
