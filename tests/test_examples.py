"""The examples of the interface, each run by itself."""
import unittest

from wornsheaf import errors

EXAMPLES = """
>>> from wornsheaf.sheaf import Sheaf
>>> Sheaf([(0, "a"), (3, "b")]) + Sheaf([(3, "a")]) == Sheaf([(0, "a"), (3, "b"), (3, "a")])
True

>>> from wornsheaf.sheaf import Sheaf
>>> Sheaf([(0, "a"), (1, "B")])
raises InvalidSheaf(1)

>>> from wornsheaf.sheaf import Sheaf
>>> from wornsheaf.deeds import apply_deed
>>> apply_deed(Sheaf([(0, "a"), (1, "b"), (2, "c")]), (2, (0,))).rows()
[(1, 'c'), (1, 'b'), (1, 'c')]

>>> from wornsheaf.sheaf import Sheaf
>>> from wornsheaf.deeds import single_deeds
>>> single_deeds(Sheaf([(0, "a"), (1, "b"), (2, "c")]))
[(1, (0,)), (2, (0,)), (2, (1,))]

>>> from wornsheaf.sheaf import Sheaf
>>> from wornsheaf.deeds import single_deeds
>>> single_deeds(Sheaf([(1, "a"), (0, "b"), (2, "c")]))
[(0, (1,)), (2, (0,)), (2, (1,))]

>>> from wornsheaf.sheaf import Sheaf
>>> from wornsheaf.deeds import replay
>>> replay(Sheaf([(0, "a"), (1, "b")]), [(1, (0,)), (1, (0,))])
raises InvalidDeed(1)

>>> from wornsheaf.lineage import lineage
>>> lineage(3, [(2, (1,)), (1, (0,))])
[(2, 2), (2, 2), (2, 1)]

>>> from wornsheaf.lineage import first_shares
>>> first_shares(3, [(2, (1,)), (1, (0,))])
[0, 0, 3]

>>> from wornsheaf.notation import parse_log
>>> parse_log("2>0 1>0,2")
[(2, (0,)), (1, (0, 2))]

>>> from wornsheaf.notation import format_demands
>>> format_demands({"b": 2, "a": 0})
'b=2'

>>> from wornsheaf.notation import parse_sheaf
>>> parse_sheaf("0:a  1:b")
raises InvalidText(1)

>>> from wornsheaf.sheaf import Sheaf
>>> from wornsheaf.ends import possible_ends
>>> possible_ends(Sheaf([(0, "a"), (1, "b"), (2, "c")]))
[0, 1]

>>> from wornsheaf.sheaf import Sheaf
>>> from wornsheaf.ends import reach
>>> reach(Sheaf([(0, "a"), (1, "b"), (2, "c")]), 1)
3

>>> from wornsheaf.sheaf import Sheaf
>>> from wornsheaf.ends import low_height
>>> low_height(Sheaf([(0, "a"), (0, "b"), (1, "c")]))
-1

>>> from wornsheaf.sheaf import Sheaf
>>> from wornsheaf.changes import sheets_to_lower
>>> sheets_to_lower(Sheaf([(0, "a"), (2, "b")]), -1)
[0, -1]

>>> from wornsheaf.sheaf import Sheaf
>>> from wornsheaf.changes import lifts_to_raise
>>> lifts_to_raise(Sheaf([(0, "a"), (0, "b")]), 1)
2

>>> from wornsheaf.boxes import box_ends
>>> box_ends([(0, 0), (1, 2)])
[0, 1]

>>> from wornsheaf.boxes import sure_ends
>>> sure_ends([(0, 0), (1, 2)])
[]

>>> from wornsheaf.boxes import drops
>>> drops([2, 1])
[1, 2]

>>> from wornsheaf.sheaf import Sheaf
>>> from wornsheaf.demands import trouble
>>> trouble(Sheaf([(0, "a"), (1, "b"), (2, "c")]), 1, {"a": 1})
('record', 'a', 0)

>>> from wornsheaf.sheaf import Sheaf
>>> from wornsheaf.demands import trouble
>>> trouble(Sheaf([(0, "a"), (1, "b"), (2, "c")]), 0, {"b": 1})
('height', 1, 1)

>>> from wornsheaf.sheaf import Sheaf
>>> from wornsheaf.demands import trouble
>>> trouble(Sheaf([(0, "a"), (1, "b"), (2, "c")]), 0, {"c": 3})
None

>>> from wornsheaf.sheaf import Sheaf
>>> from wornsheaf.demands import met_ends
>>> met_ends(Sheaf([(0, "a"), (1, "b"), (2, "c")]), {"b": 1})
[1]

>>> from wornsheaf.sheaf import Sheaf
>>> from wornsheaf.stages import plan
>>> plan(Sheaf([(0, "a"), (1, "b"), (2, "c")]), 1, {})
[(2, (0,))]

>>> from wornsheaf.sheaf import Sheaf
>>> from wornsheaf.lookers import look_at_reason
>>> look_at_reason(Sheaf([(0, "a"), (1, "b"), (2, "c")]), 0, {"b": 1}, ("height", 1, 1))
True

>>> from wornsheaf.sheaf import Sheaf
>>> from wornsheaf.keeping import kept_ends
>>> kept_ends(Sheaf([(0, "a"), (0, "b"), (1, "c")]), ["a", "b"])
[]

>>> from wornsheaf.sheaf import Sheaf
>>> from wornsheaf.keeping import swap_choices
>>> swap_choices(Sheaf([(0, "a"), (0, "b"), (1, "c")]), 0, ["a"], "b")
(False, ['a'])

>>> from wornsheaf.sheaf import Sheaf
>>> from wornsheaf.keeping import swap_choices
>>> swap_choices(Sheaf([(0, "a"), (0, "b"), (1, "c")]), 0, ["a"], "c")
(True, [])

>>> from wornsheaf.sheaf import Sheaf
>>> from wornsheaf.wishes import wish_trouble
>>> wish_trouble(Sheaf([(0, "a"), (0, "b"), (1, "c")]), 0, {"c": (0, 1)})
('short', 2, (0,))

>>> from wornsheaf.sheaf import Sheaf
>>> from wornsheaf.wishes import grant
>>> grant(Sheaf([(0, "a"), (0, "b"), (1, "c")]), 0, {"a": (0, 0)}) == {"b": 1, "c": 2}
True

>>> from wornsheaf.sheaf import Sheaf
>>> from wornsheaf.outcomes import count_outcomes
>>> count_outcomes(Sheaf([(0, "a"), (0, "b"), (1, "c")]), 0)
2

>>> from wornsheaf.sheaf import Sheaf
>>> from wornsheaf.outcomes import outcome_at
>>> outcome_at(Sheaf([(0, "a"), (0, "b"), (1, "c")]), 0, 1)
[1, 0, 2]

>>> from wornsheaf.traces import least_start
>>> least_start(2, [(1, (0,))])
[0, 1]

>>> from wornsheaf.traces import told_gap
>>> told_gap(2, [(1, (0,))], 1, 0)
1

>>> from wornsheaf.traces import told_heights
>>> told_heights(2, [(1, (0,)), (1, (0,))])
[None, 2]

>>> from wornsheaf.traces import find_ring
>>> find_ring(2, [(1, (0,)), (1, (0,))])
[(1, 0)]

>>> from wornsheaf.traces import least_start
>>> least_start(2, [(1, (0,)), (1, (0,))])
raises ContradictoryLog(1)

>>> from wornsheaf.sheaf import Sheaf
>>> from wornsheaf.shortest import crossings
>>> crossings(Sheaf([(0, "a"), (0, "b"), (0, "c"), (3, "d")]), 0)
[0, 2, 1, 0]

>>> from wornsheaf.sheaf import Sheaf
>>> from wornsheaf.shortest import crossings
>>> crossings(Sheaf([(0, "a"), (0, "b"), (0, "c"), (3, "d")]), 1)
[3, 1, 0]

>>> from wornsheaf.sheaf import Sheaf
>>> from wornsheaf.shortest import shortest_length
>>> shortest_length(Sheaf([(0, "a"), (0, "b"), (0, "c"), (3, "d")]), 0)
6

>>> from wornsheaf.sheaf import Sheaf
>>> from wornsheaf.shortest import quickest_end
>>> quickest_end(Sheaf([(0, "a"), (1, "b"), (2, "c")]))
(1, 1)

>>> from wornsheaf.sheaf import Sheaf
>>> from wornsheaf.longest import deeds_left
>>> deeds_left(Sheaf([(0, "a"), (1, "b"), (2, "c")]))
4

>>> from wornsheaf.sheaf import Sheaf
>>> from wornsheaf.longest import deeds_left
>>> deeds_left(Sheaf([(1, "a"), (2, "b")]))
1

>>> from wornsheaf.sheaf import Sheaf
>>> from wornsheaf.rounds import round_plan
>>> round_plan(Sheaf([(0, "a"), (1, "b"), (2, "c")]), 1)
[[(2, (0,))]]

>>> from wornsheaf.sheaf import Sheaf
>>> from wornsheaf.contests import Contest
>>> contest = Contest(Sheaf([(0, "a"), (1, "b"), (2, "c")]))
>>> contest.choose(1)
>>> contest.choices()
[0]

>>> from wornsheaf.sheaf import Sheaf
>>> from wornsheaf.contests import Contest, LowSide, Picker, play
>>> contest = Contest(Sheaf([(0, "a"), (1, "b"), (2, "c")]), first="target")
>>> log = play(contest, LowSide("source"), Picker("target", [1]))
>>> contest.current().top
0

>>> from wornsheaf.sheaf import Sheaf
>>> from wornsheaf.guide import safe_deeds
>>> safe_deeds(Sheaf([(0, "a"), (1, "b"), (2, "c")]), 0, {"c": 3})
[(1, (0,)), (2, (1,))]

>>> from wornsheaf.sheaf import Sheaf
>>> from wornsheaf.guide import spoiled_at
>>> spoiled_at(Sheaf([(0, "a"), (1, "b"), (2, "c")]), [(2, (0,))], 0, {"c": 3})
0

>>> from wornsheaf.sheaf import Sheaf
>>> from wornsheaf.claims import claim_demands
>>> claim_demands(Sheaf([(0, "a"), (1, "b"), (2, "c")]), 0, {"b": 1}).kind
'fails'

>>> from wornsheaf.desk import Desk
>>> desk = Desk()
>>> desk.lay("p", [(0, "a"), (1, "b"), (2, "c")])
>>> desk.set_goal("p", 0, {"c": 3})
>>> desk.do("p", (1, (0,)))
>>> desk.page()
'p;0:a 1:b 2:c;1>0;;0 c=3'

>>> from wornsheaf.desk import Desk
>>> desk = Desk()
>>> desk.lay("p", [(0, "a"), (1, "b"), (2, "c")])
>>> desk.set_goal("p", 0, {"c": 3})
>>> desk.do("p", (2, (0,)))
raises Spoiled(0, ('height', 0, 0))

>>> from wornsheaf.desk import read_page
>>> read_page("p;0:a 1:b;1>0;1>0;")
raises InvalidPage(0)
"""


def run_lines(lines, names):
    """Run the lines of an example and return what the last one shows."""
    for line in lines[:-1]:
        exec(line, names)
    try:
        return repr(eval(compile(lines[-1], "example", "eval"), names))
    except errors.WornError as error:
        told = ", ".join(repr(worth) for worth in vars(error).values())
        return f"raises {type(error).__name__}({told})"


class TestExamples(unittest.TestCase):
    def test_each(self):
        examples = EXAMPLES.strip("\n").split("\n\n")
        self.assertEqual(len(examples), 52)
        for example in examples:
            with self.subTest(example):
                *lines, wanted = example.split("\n")
                self.assertTrue(all(line.startswith(">>> ") for line in lines))
                self.assertEqual(run_lines([line[4:] for line in lines], {}), wanted)


if __name__ == "__main__":
    unittest.main()
