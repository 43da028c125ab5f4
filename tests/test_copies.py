"""Point 2: arguments stay as they are, and what is returned is new."""
import copy
import unittest

from tests.helpers import sheaf_of
from wornsheaf import deeds, ends, lineage, notation, steady
from wornsheaf.errors import InvalidDeed, InvalidEntry, InvalidSheaf
from wornsheaf.sheaf import Sheaf

ROWS = [(0, "a"), (3, "b"), (1, "a"), (0, "c")]
SHEAF = Sheaf(ROWS)
LOG = [(1, (0, 3)), (0, (2,))]
BAD_LOG = [(1, (0, 3)), (2, (0, 1)), (9, ())]

# Questions that take a list or a dict: the answer, and what is handed in.
ASKED = [
    (lambda rows: Sheaf(rows).rows(), [ROWS]),
    (lambda log: deeds.replay(SHEAF, log, breadth=2).rows(), [LOG]),
    (lambda log: [s.rows() for s in deeds.each_state(SHEAF, log, breadth=2)], [LOG]),
    (lambda log: deeds.is_complete(SHEAF, log, breadth=2), [LOG]),
    (lambda log: deeds.is_complete(SHEAF, log, breadth=2), [BAD_LOG]),
    (lambda log: lineage.lineage(4, log), [LOG]),
    (lambda log: lineage.first_shares(4, log), [LOG]),
    (lambda log: notation.format_log(log), [LOG]),
    (lambda demands: notation.format_demands(demands), [{"b": 2, "a": 0, "c": 1}]),
]

# Questions that are answered with a list or a dict.
ANSWERED = {
    "rows": lambda: SHEAF.rows(),
    "records": lambda: SHEAF.records(),
    "shares": lambda: SHEAF.shares(),
    "sheets_of": lambda: SHEAF.sheets_of("a"),
    "no sheets": lambda: SHEAF.sheets_of("z"),
    "iteration": lambda: list(SHEAF),
    "single_deeds": lambda: deeds.single_deeds(SHEAF),
    "no single deeds": lambda: deeds.single_deeds(sheaf_of(1, 1)),
    "lineage": lambda: lineage.lineage(4, LOG),
    "first_shares": lambda: lineage.first_shares(4, LOG),
    "parse_log": lambda: notation.parse_log("2>0 1>0,2"),
    "parse_empty_log": lambda: notation.parse_log(""),
    "parse_demands": lambda: notation.parse_demands("a=1 b=2"),
    "parse_no_demands": lambda: notation.parse_demands(""),
    "possible_ends": lambda: ends.possible_ends(SHEAF, breadth=3),
    "near_log": lambda: steady.near_log(SHEAF),
    "far_log": lambda: steady.far_log(SHEAF),
    "no near log": lambda: steady.near_log(sheaf_of(1, 1)),
    "no far log": lambda: steady.far_log(sheaf_of(1, 1)),
}


def spoil(thing):
    """Change a list or a dict in every way that is at hand."""
    if isinstance(thing, dict):
        for key in thing:
            thing[key] = -99
        thing["zz"] = 77
    else:
        thing.reverse()
        thing.append("spoiled")
        thing[0] = "spoiled"


class TestCopies(unittest.TestCase):
    def test_what_is_handed_in_stays(self):
        for function, things in ASKED:
            with self.subTest(things=things):
                handed = copy.deepcopy(things)
                first = function(*handed)
                self.assertEqual(handed, things)
                for thing in handed:
                    spoil(thing)
                self.assertEqual(function(*copy.deepcopy(things)), first)

    def test_errors_leave_what_is_handed_in(self):
        rows = [(0, "a"), (1, "B"), (2, "")]
        with self.assertRaises(InvalidSheaf):
            Sheaf(rows)
        self.assertEqual(rows, [(0, "a"), (1, "B"), (2, "")])
        log = list(BAD_LOG)
        for ask in (
            lambda: deeds.replay(SHEAF, log, breadth=2),
            lambda: list(deeds.each_state(SHEAF, log, breadth=2)),
            lambda: lineage.lineage(4, log),
            lambda: lineage.first_shares(4, log),
        ):
            with self.assertRaises(InvalidDeed):
                ask()
            self.assertEqual(log, BAD_LOG)
        self.assertEqual(SHEAF.rows(), ROWS)

    def test_what_is_returned_is_new(self):
        for name, function in ANSWERED.items():
            with self.subTest(name):
                first = function()
                wanted = copy.deepcopy(first)
                second = function()
                self.assertEqual(second, wanted)
                self.assertIsNot(first, second)
                spoil(first)
                self.assertEqual(second, wanted)
                self.assertEqual(function(), wanted)
        self.assertEqual(SHEAF.rows(), ROWS)
        self.assertEqual((SHEAF.top, SHEAF.bottom, len(SHEAF)), (3, 0, 4))

    def test_the_sheaf_keeps_its_own_rows(self):
        rows = list(ROWS)
        sheaf = Sheaf(rows)
        self.assertIsNot(sheaf.rows(), rows)
        spoil(rows)
        self.assertEqual(sheaf.rows(), ROWS)
        self.assertEqual(sheaf.shares(), {"a": 2, "b": 1, "c": 1})
        self.assertEqual(sheaf.sheets_of("a"), [0, 2])

    def test_bound_sheaves_share_nothing(self):
        first, second = Sheaf(ROWS), sheaf_of(5, 6)
        bound = first + second
        spoil(bound.rows())
        spoil(first.rows())
        self.assertEqual(bound.rows(), ROWS + [(5, "a"), (6, "b")])
        self.assertEqual(first.rows(), ROWS)

    def test_functions_leave_the_sheaf(self):
        after, entry = lineage.apply_with_entry(SHEAF, (1, (0, 2)), breadth=2)
        deeds.apply_deed(SHEAF, (1, (0,)))
        deeds.is_allowed(SHEAF, (1, (0,)))
        self.assertEqual(SHEAF.rows(), ROWS)
        left = after.rows()
        lineage.undo_entry(after, entry)
        with self.assertRaises(InvalidEntry):
            lineage.undo_entry(after, (entry[0], entry[1][:1]))
        lineage.past_deed(after)
        self.assertEqual(after.rows(), left)

    def test_a_log_that_is_changed_while_its_states_are_read(self):
        log = list(LOG)
        states = deeds.each_state(SHEAF, log, breadth=2)
        found = [next(states).rows()]
        log.clear()
        found += [state.rows() for state in states]
        wanted = [state.rows() for state in deeds.each_state(SHEAF, LOG, breadth=2)]
        self.assertEqual(found, wanted)
        self.assertEqual(len(found), 3)

    def test_states_that_were_yielded_stay(self):
        first, second, third = deeds.each_state(SHEAF, LOG, breadth=2)
        spoil(first.rows())
        self.assertEqual(first.rows(), ROWS)
        self.assertEqual(second.rows(), [(2, "b"), (2, "b"), (1, "a"), (2, "b")])
        self.assertEqual(third.rows(), [(1, "b"), (2, "b"), (1, "b"), (2, "b")])


if __name__ == "__main__":
    unittest.main()
