"""The names, arguments and places of the interface."""
import importlib
import inspect
import unittest

FUNCTIONS = {
    "sheaf": ["valid_record(text)"],
    "deeds": [
        "is_allowed(sheaf, deed, *, breadth=1)",
        "apply_deed(sheaf, deed, *, breadth=1)",
        "replay(sheaf, log, *, breadth=1)",
        "each_state(sheaf, log, *, breadth=1)",
        "is_complete(sheaf, log, *, breadth=1)",
        "single_deeds(sheaf)",
    ],
    "lineage": [
        "lineage(count, log)",
        "first_shares(count, log)",
        "apply_with_entry(sheaf, deed, *, breadth=1)",
        "undo_entry(sheaf, entry)",
        "past_deed(sheaf)",
    ],
    "notation": [
        "format_sheaf(sheaf)",
        "format_deed(deed)",
        "format_log(log)",
        "format_demands(demands)",
        "parse_sheaf(text)",
        "parse_deed(text)",
        "parse_log(text)",
        "parse_demands(text)",
    ],
    "ends": [
        "cap(sharpness, end, *, breadth=1)",
        "reach(sheaf, end, *, breadth=1)",
        "record_reach(sheaf, record, end, *, breadth=1)",
        "no_sharper(sheaf, height)",
        "low_end(sheaf)",
        "high_end(sheaf, *, breadth=1)",
        "low_height(sheaf)",
        "possible_ends(sheaf, *, breadth=1)",
    ],
    "steady": [
        "is_near(sheaf, deed)",
        "is_far(sheaf, deed)",
        "near_log(sheaf)",
        "far_log(sheaf)",
    ],
    "changes": [
        "with_sheet(sheaf, sharpness, record)",
        "without_sheet(sheaf, index)",
        "sharpened(sheaf, index, steps)",
        "sheets_to_lower(sheaf, end)",
        "lifts_to_raise(sheaf, end, *, breadth=1)",
        "side_by_side(first_count, first_log, second_log)",
    ],
    "boxes": [
        "box_ends(box, *, breadth=1)",
        "sure_ends(box, *, breadth=1)",
        "list_with_end(box, end, *, breadth=1)",
        "list_without_end(box, end, *, breadth=1)",
        "low_ends(box)",
        "high_ends(box, *, breadth=1)",
        "list_with_low(box, low)",
        "list_with_high(box, high, *, breadth=1)",
        "drops(counts)",
        "kinds_with_drop(counts, drop)",
    ],
    "demands": [
        "set_aside(sheaf, end, demands, *, breadth=1)",
        "footing(sheaf, aside)",
        "trouble(sheaf, end, demands, *, breadth=1)",
        "can_meet(sheaf, end, demands, *, breadth=1)",
        "met_ends(sheaf, demands, *, breadth=1)",
    ],
    "stages": [
        "plan(sheaf, end, demands, *, breadth=1)",
        "full_shares(sheaf, end, demands, *, breadth=1)",
    ],
    "lookers": [
        "look_at_plan(sheaf, end, demands, log, *, breadth=1)",
        "look_at_reason(sheaf, end, demands, reason, *, breadth=1)",
    ],
    "keeping": [
        "keepsakes(sheaf, kept)",
        "kept_floor(sheaf, kept)",
        "kept_ends(sheaf, kept, *, breadth=1)",
        "kept_floors(sheaf, kept, log, *, breadth=1)",
        "most_kept(sheaf, end, *, breadth=1)",
        "dearest_kept(sheaf, end, prices, *, breadth=1)",
        "room(sheaf, end, height)",
        "swap_choices(sheaf, end, kept, record, *, breadth=1)",
        "greatest_share(sheaf, end, demands, record, *, breadth=1)",
    ],
    "wishes": [
        "worths(sheaf, end, wish, *, breadth=1)",
        "wish_trouble(sheaf, end, wish, *, breadth=1)",
        "greatest_within(sheaf, end, wish, *, breadth=1)",
        "grant(sheaf, end, wish, *, breadth=1)",
        "look_at_short(sheaf, end, wish, reason, *, breadth=1)",
    ],
    "outcomes": [
        "outcome_order(sheaf)",
        "is_outcome(sheaf, end, numbers, *, breadth=1)",
        "count_outcomes(sheaf, end, *, breadth=1)",
        "outcome_at(sheaf, end, place, *, breadth=1)",
        "place_of(sheaf, end, numbers, *, breadth=1)",
        "next_outcome(sheaf, end, numbers, *, breadth=1)",
        "each_outcome(sheaf, end, *, breadth=1)",
        "count_with(sheaf, end, record, *, breadth=1)",
    ],
    "traces": [
        "lines(count, log)",
        "find_ring(count, log)",
        "is_ring(count, log, ring)",
        "least_start(count, log)",
        "told_gap(count, log, upper, lower)",
        "told_heights(count, log)",
    ],
    "shortest": [
        "crossings(sheaf, end, *, breadth=1)",
        "shortest_length(sheaf, end, *, breadth=1)",
        "shortest_log(sheaf, end, *, breadth=1)",
        "lifts_across(sheaf, log, height, *, breadth=1)",
        "quickest_end(sheaf, *, breadth=1)",
    ],
    "longest": [
        "own_low(sheaf, index)",
        "deeds_left(sheaf)",
        "longest_log(sheaf)",
    ],
    "rounds": [
        "play_rounds(sheaf, rounds, *, breadth=1)",
        "round_weight(sheaf, end, count, *, breadth=1)",
        "fewest_rounds(sheaf, end, *, breadth=1)",
        "round_plan(sheaf, end, *, breadth=1)",
    ],
    "contests": [
        "play(contest, source_side, target_side)",
        "can_save(sheaf, kept)",
        "dearest_saved(sheaf, prices)",
    ],
    "guide": [
        "safe_deeds(sheaf, end, demands)",
        "spoiled_at(sheaf, log, end, demands)",
        "guided_log(sheaf, end, demands, picks)",
    ],
    "claims": [
        "look(sheaf, claim, *, breadth=1)",
        "claim_demands(sheaf, end, demands, *, breadth=1)",
        "claim_wish(sheaf, end, wish, *, breadth=1)",
        "claim_shortest(sheaf, end, *, breadth=1)",
        "claim_rounds(sheaf, end, *, breadth=1)",
    ],
    "desk": ["read_page(text, *, breadth=1)"],
}
METHODS = {
    ("sheaf", "Sheaf"): [
        "rows(self)", "sharpness_of(self, index)", "record_of(self, index)", "is_level(self)",
        "records(self)", "shares(self)", "sheets_of(self, record)", "__init__(self, rows)",
        "__len__(self)", "__iter__(self)", "__eq__(self, other)", "__add__(self, other)",
    ],
    ("contests", "Contest"): [
        "__init__(self, sheaf, *, first='source')", "current(self)", "done(self)",
        "choices(self)", "choose(self, index)",
    ],
    ("contests", "LowSide"): ["__init__(self, half)", "__call__(self, sheaf, named)"],
    ("contests", "Warden"): ["__init__(self, kept)", "__call__(self, sheaf, named)"],
    ("contests", "Picker"): ["__init__(self, half, picks)", "__call__(self, sheaf, named)"],
    ("claims", "Claim"): [
        "__init__(self, kind, end, subject, paper)", "subject(self)", "paper(self)",
    ],
    ("desk", "Desk"): [
        "__init__(self, *, breadth=1)", "lay(self, name, rows)", "drop(self, name)",
        "names(self)", "sheaf(self, name)", "start(self, name)", "journal(self, name)",
        "undone(self, name)", "goal(self, name)", "set_goal(self, name, end, demands)",
        "release(self, name)", "do(self, name, deed)", "run(self, name, log)",
        "run_all(self, steps)", "undo(self, name)", "redo(self, name)", "finish(self, name)",
        "bind(self, first, second, name)", "answer(self, name, end, demands)", "page(self)",
    ],
}
PROPERTIES = {("sheaf", "Sheaf"): ["top", "bottom"], ("contests", "Contest"): ["waiting", "held"]}


def told(function):
    return function.__name__ + str(inspect.signature(function))


class TestInterface(unittest.TestCase):
    def test_functions(self):
        for name, wanted in FUNCTIONS.items():
            module = importlib.import_module(f"wornsheaf.{name}")
            for line in wanted:
                with self.subTest(module=name, function=line):
                    function = getattr(module, line.partition("(")[0])
                    self.assertTrue(inspect.isfunction(function))
                    self.assertEqual(told(function), line)
                    self.assertEqual(function.__module__, f"wornsheaf.{name}")

    def test_methods_stand_in_their_classes(self):
        for (module, name), wanted in METHODS.items():
            made = getattr(importlib.import_module(f"wornsheaf.{module}"), name)
            self.assertEqual(made.__module__, f"wornsheaf.{module}")
            for line in wanted:
                with self.subTest(name=name, method=line):
                    self.assertEqual(told(vars(made)[line.partition("(")[0]]), line)
            for word in PROPERTIES.get((module, name), []):
                self.assertIsInstance(vars(made)[word], property)

    def test_attributes(self):
        from wornsheaf.claims import Claim
        from wornsheaf.desk import Desk, read_page
        claim = Claim("meets", 4, {}, [])
        self.assertEqual((vars(claim)["kind"], vars(claim)["end"]), ("meets", 4))
        self.assertEqual(vars(Desk(breadth=3))["breadth"], 3)
        self.assertEqual(vars(read_page("", breadth=3))["breadth"], 3)

    def test_generators(self):
        from wornsheaf.deeds import each_state
        from wornsheaf.outcomes import each_outcome
        self.assertTrue(inspect.isgeneratorfunction(each_state))
        self.assertTrue(inspect.isgeneratorfunction(each_outcome))


if __name__ == "__main__":
    unittest.main()
