"""Points 3 and 4: somewhat beyond the limits nothing is refused, and numbers are exact."""
import unittest
from random import Random

from tests.helpers import level_at, sheaf_of
from wornsheaf.boxes import box_ends, list_with_end
from wornsheaf.changes import lifts_to_raise, sheets_to_lower, side_by_side
from wornsheaf.claims import claim_demands, claim_rounds, claim_shortest, claim_wish, look
from wornsheaf.contests import Contest, LowSide, Picker, Warden, can_save, play
from wornsheaf.deeds import is_complete, replay
from wornsheaf.demands import can_meet, met_ends, trouble
from wornsheaf.desk import Desk, read_page
from wornsheaf.ends import cap, high_end, low_end, possible_ends, reach
from wornsheaf.errors import Impossible
from wornsheaf.guide import guided_log, safe_deeds, spoiled_at
from wornsheaf.keeping import most_kept
from wornsheaf.lineage import lineage
from wornsheaf.lookers import look_at_plan
from wornsheaf.longest import deeds_left, longest_log
from wornsheaf.outcomes import count_outcomes, outcome_at, place_of
from wornsheaf.rounds import fewest_rounds, play_rounds, round_plan, round_weight
from wornsheaf.shortest import quickest_end, shortest_length, shortest_log
from wornsheaf.stages import full_shares, plan
from wornsheaf.steady import far_log, near_log
from wornsheaf.traces import find_ring, least_start, told_gap, told_heights

FIFTY = sheaf_of(*[Random(301).randint(0, 30) for _ in range(50)])
WIDE = sheaf_of(-1500, -1500, 0, 1498, 1499, 1500)


class TestBeyond(unittest.TestCase):
    def test_fifty_sheets(self):
        for breadth in (1, 8):
            low, high = low_end(FIFTY), high_end(FIFTY, breadth=breadth)
            for end in (low, high):
                log = plan(FIFTY, end, {}, breadth=breadth)
                self.assertTrue(look_at_plan(FIFTY, end, {}, log, breadth=breadth))
                log = shortest_log(FIFTY, end, breadth=breadth)
                self.assertTrue(level_at(replay(FIFTY, log, breadth=breadth), end))
                self.assertEqual(len(log), shortest_length(FIFTY, end, breadth=breadth))
            rounds = round_plan(FIFTY, high, breadth=breadth)
            self.assertEqual(len(rounds), fewest_rounds(FIFTY, high, breadth=breadth))
            self.assertGreaterEqual(play_rounds(FIFTY, rounds, breadth=breadth).bottom, high)
            self.assertIn(quickest_end(FIFTY, breadth=breadth)[0], range(low, high + 1))
        self.assertTrue(is_complete(FIFTY, near_log(FIFTY)))
        self.assertTrue(is_complete(FIFTY, far_log(FIFTY)))
        self.assertEqual(sum(full_shares(FIFTY, low_end(FIFTY), {}).values()), 50)
        self.assertGreater(most_kept(FIFTY, low_end(FIFTY)), 0)
        self.assertEqual(deeds_left(sheaf_of(*range(50))), 2 ** 50 - 51)

    def test_sharpnesses_beyond_1000(self):
        self.assertEqual(cap(1500, -1500, breadth=9), 10 ** 3000)
        self.assertEqual(reach(WIDE, -1500), 2 + 2 ** 1500 + 2 ** 2998 + 2 ** 2999 + 2 ** 3000)
        self.assertEqual(round_weight(WIDE, -1500, 3000), reach(WIDE, -1500))
        self.assertEqual(possible_ends(WIDE), [1495, 1496, 1497, 1498])
        self.assertEqual(met_ends(WIDE, {"f": 2, "e": 1}), [1496, 1497, 1498])
        self.assertEqual(trouble(WIDE, -1500, {"f": 5000}), ("total", 5000))
        self.assertEqual(trouble(WIDE, -1500, {}), ("height", -1498, 2))
        self.assertEqual(fewest_rounds(WIDE, -1500), 0)
        self.assertEqual(lifts_to_raise(sheaf_of(0, 0), 3000), 3001)
        self.assertEqual(len(sheets_to_lower(sheaf_of(0), -3000)), 3000)
        box = [(-1500, 1500)] * 60
        ends = box_ends(box)
        self.assertEqual((ends[0], ends[-1]), (-1500, 1500))
        self.assertEqual(list_with_end(box, 1500), [1500] * 60)

    def test_longer_logs(self):
        log = longest_log(sheaf_of(*range(12)))
        self.assertEqual(len(log), 2 ** 12 - 13)
        self.assertEqual(len(lineage(12, log)), 12)
        desk = Desk()
        desk.lay("p", sheaf_of(*range(12)).rows())
        desk.run("p", log)
        self.assertTrue(level_at(desk.sheaf("p"), 0))
        for _ in range(2500):
            desk.undo("p")
        other = read_page(desk.page())
        self.assertEqual(other.undone("p"), log[-2500:])
        self.assertEqual(other.page(), desk.page())
        self.assertEqual(len(side_by_side(3, log, log)), 2 * len(log))
        self.assertEqual(spoiled_at(sheaf_of(*range(12)), log, 0, {"l": 12}), None)

    def test_traces_of_longer_logs(self):
        sheaf = sheaf_of(*range(9))
        log = longest_log(sheaf)[:400]
        self.assertIsNone(find_ring(9, log))
        self.assertTrue(all(a <= b for a, b in zip(least_start(9, log), range(9))))
        self.assertLessEqual(told_gap(9, log, 8, 0), 8)
        heights = told_heights(9, longest_log(sheaf))
        self.assertEqual([height for height in heights if height is not None], [8])

    def test_larger_contests_and_guides(self):
        chance = Random(302)
        sheaf = sheaf_of(*[chance.randint(0, 9) for _ in range(11)])
        for first in ("source", "target"):
            contest = Contest(sheaf, first=first)
            picks = [chance.randint(0, 5000) for _ in range(3000)]
            play(contest, LowSide("source"), Picker("target", picks))
            self.assertTrue(level_at(contest.current(), low_end(sheaf)))
        kept = ["k", "j"]
        if can_save(sheaf, kept):
            contest = Contest(sheaf)
            play(contest, Picker("source", picks), Warden(kept))
            self.assertTrue(set(kept) <= set(contest.current().records()))
        sheaf = sheaf_of(*range(9))
        log = guided_log(sheaf, 4, {}, [5000])
        self.assertTrue(level_at(replay(sheaf, log), 4))
        near = [(index, (index - 1,)) for index in range(1, 20)]
        self.assertEqual(safe_deeds(sheaf_of(*range(20)), 0, {}), near)

    def test_more_outcomes(self):
        sheaf = sheaf_of(*[5] * 13, *[0] * 13)
        many = count_outcomes(sheaf, 2)
        self.assertEqual(place_of(sheaf, 2, outcome_at(sheaf, 2, many - 1)), many - 1)

    def test_long_dicts_and_lists(self):
        records = [f"r{number}" for number in range(3000)]
        demands = {record: 0 for record in records}
        sheaf = sheaf_of(*range(8))
        self.assertTrue(can_meet(sheaf, 0, demands))
        self.assertTrue(level_at(replay(sheaf, guided_log(sheaf, 3, demands, [2] * 3000)), 3))
        wish = {record: (0, 4000) for record in records}
        claim = claim_wish(sheaf, 3, wish)
        self.assertEqual((claim.kind, look(sheaf, claim)), ("grants", True))
        contest = Contest(sheaf)
        play(contest, LowSide("source"), Warden(records))
        self.assertTrue(level_at(contest.current(), 0))
        desk = Desk()
        for record in records[:300]:
            desk.lay(record, sheaf.rows())
            desk.set_goal(record, 3, demands)
        self.assertEqual(desk.goal("r7"), (3, {}))
        self.assertEqual(read_page(desk.page()).names(), sorted(records[:300]))

    def test_claims_far_away(self):
        for end in (-3000, 3000):
            self.assertTrue(look(WIDE, claim_demands(WIDE, end, {"a": 2})))
            with self.assertRaises(Impossible):
                claim_shortest(WIDE, end)
        self.assertTrue(look(WIDE, claim_rounds(WIDE, -3000)))


if __name__ == "__main__":
    unittest.main()
