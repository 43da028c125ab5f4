"""The names, arguments and places of the interface."""
import importlib
import inspect
import unittest

FUNCTIONS = {
    "sheaf": ["valid_record(text)"],
    "deeds": [
        "is_allowed(sheaf, deed, *, breadth=1)",
        "apply_deed(sheaf, deed, *, breadth=1)",
        "replay(sheaf, log, *, breadth=1)",
        "each_state(sheaf, log, *, breadth=1)",
        "is_complete(sheaf, log, *, breadth=1)",
        "single_deeds(sheaf)",
    ],
    "lineage": [
        "lineage(count, log)",
        "first_shares(count, log)",
        "apply_with_entry(sheaf, deed, *, breadth=1)",
        "undo_entry(sheaf, entry)",
        "past_deed(sheaf)",
    ],
    "notation": [
        "format_sheaf(sheaf)",
        "format_deed(deed)",
        "format_log(log)",
        "format_demands(demands)",
        "parse_sheaf(text)",
        "parse_deed(text)",
        "parse_log(text)",
        "parse_demands(text)",
    ],
    "ends": [
        "cap(sharpness, end, *, breadth=1)",
        "reach(sheaf, end, *, breadth=1)",
        "record_reach(sheaf, record, end, *, breadth=1)",
        "no_sharper(sheaf, height)",
        "low_end(sheaf)",
        "high_end(sheaf, *, breadth=1)",
        "low_height(sheaf)",
        "possible_ends(sheaf, *, breadth=1)",
    ],
    "steady": [
        "is_near(sheaf, deed)",
        "is_far(sheaf, deed)",
        "near_log(sheaf)",
        "far_log(sheaf)",
    ],
}
SHEAF_METHODS = [
    "rows(self)", "sharpness_of(self, index)", "record_of(self, index)", "is_level(self)",
    "records(self)", "shares(self)", "sheets_of(self, record)", "__init__(self, rows)",
    "__len__(self)", "__iter__(self)", "__eq__(self, other)", "__add__(self, other)",
]


def told(function):
    return function.__name__ + str(inspect.signature(function))


class TestInterface(unittest.TestCase):
    def test_functions(self):
        for name, wanted in FUNCTIONS.items():
            module = importlib.import_module(f"wornsheaf.{name}")
            for line in wanted:
                with self.subTest(module=name, function=line):
                    function = getattr(module, line.partition("(")[0])
                    self.assertTrue(inspect.isfunction(function))
                    self.assertEqual(told(function), line)
                    self.assertEqual(function.__module__, f"wornsheaf.{name}")

    def test_sheaf(self):
        from wornsheaf.sheaf import Sheaf
        self.assertEqual(Sheaf.__module__, "wornsheaf.sheaf")
        for line in SHEAF_METHODS:
            with self.subTest(line):
                self.assertEqual(told(vars(Sheaf)[line.partition("(")[0]]), line)
        for name in ("top", "bottom"):
            self.assertIsInstance(vars(Sheaf)[name], property)

    def test_each_state_is_a_generator(self):
        from wornsheaf.deeds import each_state
        self.assertTrue(inspect.isgeneratorfunction(each_state))


if __name__ == "__main__":
    unittest.main()
