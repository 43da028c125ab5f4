"""The kinds of values that are returned: logs, rings, lines and rows of the form told."""
import unittest

from tests.helpers import sheaf_of, some_sheaves
from wornsheaf.contests import Contest, LowSide, Picker, Warden, play
from wornsheaf.desk import Desk, read_page
from wornsheaf.ends import high_end, possible_ends
from wornsheaf.guide import guided_log, safe_deeds
from wornsheaf.longest import longest_log
from wornsheaf.rounds import fewest_rounds, round_plan, round_weight
from wornsheaf.shortest import crossings, quickest_end, shortest_log
from wornsheaf.stages import plan
from wornsheaf.steady import far_log, near_log
from wornsheaf.traces import find_ring, lines

SHEAF = sheaf_of(0, 3, 1, 1, 0, 5, 2)


class TestKinds(unittest.TestCase):
    def check_numbers(self, numbers):
        for number in numbers:
            self.assertIs(type(number), int)

    def check_log(self, log):
        self.assertIs(type(log), list)
        for deed in log:
            self.assertIs(type(deed), tuple)
            source, targets = deed
            self.assertIs(type(targets), tuple)
            self.check_numbers((source, *targets))
            self.assertEqual(list(targets), sorted(set(targets)))

    def test_logs(self):
        for sheaf in [SHEAF] + list(some_sheaves(311, 20, most_sheets=12, span=6)):
            self.check_log(near_log(sheaf))
            self.check_log(far_log(sheaf))
            for breadth in (1, 2, 6):
                for end in possible_ends(sheaf, breadth=breadth):
                    self.check_log(plan(sheaf, end, {}, breadth=breadth))
                    self.check_log(shortest_log(sheaf, end, breadth=breadth))
                    self.check_numbers(crossings(sheaf, end, breadth=breadth))
                    self.check_numbers(quickest_end(sheaf, breadth=breadth))
                    for deeds in round_plan(sheaf, end, breadth=breadth):
                        self.check_log(deeds)
                high = high_end(sheaf, breadth=breadth)
                self.check_numbers([
                    fewest_rounds(sheaf, high, breadth=breadth),
                    round_weight(sheaf, high, 2, breadth=breadth),
                ])
        self.check_log(longest_log(SHEAF))
        self.check_log(safe_deeds(SHEAF, 1, {}))
        self.check_log(guided_log(SHEAF, 1, {}, [4, 9]))

    def test_logs_of_contests(self):
        for first in ("source", "target"):
            for sides in [
                (LowSide("source"), Picker("target", [2, 1])), (Picker("source", [1]), Warden(["f"])),
                (Picker("source", [3]), LowSide("target")),
            ]:
                contest = Contest(SHEAF, first=first)
                self.check_log(play(contest, *sides))
                self.check_log(contest.done())

    def test_logs_of_desks(self):
        desk = Desk(breadth=3)
        desk.lay("p", SHEAF.rows())
        self.check_log(desk.finish("p"))
        self.check_log([desk.undo("p"), desk.undo("p")])
        self.check_log([desk.redo("p")])
        for each in (desk, read_page(desk.page(), breadth=3)):
            self.check_log(each.journal("p"))
            self.check_log(each.undone("p"))

    def test_lines_and_rings(self):
        log = [(1, (0, 2)), (1, (0,)), (2, (1,))]
        for line in lines(3, log):
            self.assertEqual((type(line), len(line)), (tuple, 5))
            self.check_numbers(line)
        for pair in find_ring(3, log):
            self.assertEqual((type(pair), len(pair)), (tuple, 2))
            self.check_numbers(pair)


if __name__ == "__main__":
    unittest.main()
