"""The names, arguments and places of the interface."""
import importlib
import inspect
import unittest

FUNCTIONS = {
    "sheaf": ["valid_record(text)"],
    "deeds": [
        "is_allowed(sheaf, deed, *, breadth=1)",
        "apply_deed(sheaf, deed, *, breadth=1)",
        "replay(sheaf, log, *, breadth=1)",
        "each_state(sheaf, log, *, breadth=1)",
        "is_complete(sheaf, log, *, breadth=1)",
        "single_deeds(sheaf)",
    ],
    "lineage": [
        "lineage(count, log)",
        "first_shares(count, log)",
        "apply_with_entry(sheaf, deed, *, breadth=1)",
        "undo_entry(sheaf, entry)",
        "past_deed(sheaf)",
    ],
    "notation": [
        "format_sheaf(sheaf)",
        "format_deed(deed)",
        "format_log(log)",
        "format_demands(demands)",
        "parse_sheaf(text)",
        "parse_deed(text)",
        "parse_log(text)",
        "parse_demands(text)",
    ],
    "ends": [
        "cap(sharpness, end, *, breadth=1)",
        "reach(sheaf, end, *, breadth=1)",
        "record_reach(sheaf, record, end, *, breadth=1)",
        "no_sharper(sheaf, height)",
        "low_end(sheaf)",
        "high_end(sheaf, *, breadth=1)",
        "low_height(sheaf)",
        "possible_ends(sheaf, *, breadth=1)",
    ],
    "steady": [
        "is_near(sheaf, deed)",
        "is_far(sheaf, deed)",
        "near_log(sheaf)",
        "far_log(sheaf)",
    ],
    "changes": [
        "with_sheet(sheaf, sharpness, record)",
        "without_sheet(sheaf, index)",
        "sharpened(sheaf, index, steps)",
        "sheets_to_lower(sheaf, end)",
        "lifts_to_raise(sheaf, end, *, breadth=1)",
        "side_by_side(first_count, first_log, second_log)",
    ],
    "boxes": [
        "box_ends(box, *, breadth=1)",
        "sure_ends(box, *, breadth=1)",
        "list_with_end(box, end, *, breadth=1)",
        "list_without_end(box, end, *, breadth=1)",
        "low_ends(box)",
        "high_ends(box, *, breadth=1)",
        "list_with_low(box, low)",
        "list_with_high(box, high, *, breadth=1)",
        "drops(counts)",
        "kinds_with_drop(counts, drop)",
    ],
    "demands": [
        "set_aside(sheaf, end, demands, *, breadth=1)",
        "footing(sheaf, aside)",
        "trouble(sheaf, end, demands, *, breadth=1)",
        "can_meet(sheaf, end, demands, *, breadth=1)",
        "met_ends(sheaf, demands, *, breadth=1)",
    ],
    "stages": [
        "plan(sheaf, end, demands, *, breadth=1)",
        "full_shares(sheaf, end, demands, *, breadth=1)",
    ],
    "lookers": [
        "look_at_plan(sheaf, end, demands, log, *, breadth=1)",
        "look_at_reason(sheaf, end, demands, reason, *, breadth=1)",
    ],
    "keeping": [
        "keepsakes(sheaf, kept)",
        "kept_floor(sheaf, kept)",
        "kept_ends(sheaf, kept, *, breadth=1)",
        "kept_floors(sheaf, kept, log, *, breadth=1)",
        "most_kept(sheaf, end, *, breadth=1)",
        "dearest_kept(sheaf, end, prices, *, breadth=1)",
        "room(sheaf, end, height)",
        "swap_choices(sheaf, end, kept, record, *, breadth=1)",
        "greatest_share(sheaf, end, demands, record, *, breadth=1)",
    ],
    "wishes": [
        "worths(sheaf, end, wish, *, breadth=1)",
        "wish_trouble(sheaf, end, wish, *, breadth=1)",
        "greatest_within(sheaf, end, wish, *, breadth=1)",
        "grant(sheaf, end, wish, *, breadth=1)",
        "look_at_short(sheaf, end, wish, reason, *, breadth=1)",
    ],
    "outcomes": [
        "outcome_order(sheaf)",
        "is_outcome(sheaf, end, numbers, *, breadth=1)",
        "count_outcomes(sheaf, end, *, breadth=1)",
        "outcome_at(sheaf, end, place, *, breadth=1)",
        "place_of(sheaf, end, numbers, *, breadth=1)",
        "next_outcome(sheaf, end, numbers, *, breadth=1)",
        "each_outcome(sheaf, end, *, breadth=1)",
        "count_with(sheaf, end, record, *, breadth=1)",
    ],
}
SHEAF_METHODS = [
    "rows(self)", "sharpness_of(self, index)", "record_of(self, index)", "is_level(self)",
    "records(self)", "shares(self)", "sheets_of(self, record)", "__init__(self, rows)",
    "__len__(self)", "__iter__(self)", "__eq__(self, other)", "__add__(self, other)",
]


def told(function):
    return function.__name__ + str(inspect.signature(function))


class TestInterface(unittest.TestCase):
    def test_functions(self):
        for name, wanted in FUNCTIONS.items():
            module = importlib.import_module(f"wornsheaf.{name}")
            for line in wanted:
                with self.subTest(module=name, function=line):
                    function = getattr(module, line.partition("(")[0])
                    self.assertTrue(inspect.isfunction(function))
                    self.assertEqual(told(function), line)
                    self.assertEqual(function.__module__, f"wornsheaf.{name}")

    def test_sheaf(self):
        from wornsheaf.sheaf import Sheaf
        self.assertEqual(Sheaf.__module__, "wornsheaf.sheaf")
        for line in SHEAF_METHODS:
            with self.subTest(line):
                self.assertEqual(told(vars(Sheaf)[line.partition("(")[0]]), line)
        for name in ("top", "bottom"):
            self.assertIsInstance(vars(Sheaf)[name], property)

    def test_generators(self):
        from wornsheaf.deeds import each_state
        from wornsheaf.outcomes import each_outcome
        self.assertTrue(inspect.isgeneratorfunction(each_state))
        self.assertTrue(inspect.isgeneratorfunction(each_outcome))


if __name__ == "__main__":
    unittest.main()
