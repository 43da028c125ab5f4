import unittest
from itertools import product
from random import Random

from tests.helpers import complete_log, error_of, sheaf_of, some_log, some_sheaves
from wornsheaf.errors import ContradictoryLog, InvalidDeed
from wornsheaf.traces import find_ring, is_ring, least_start, lines, told_gap, told_heights

# One deed after the other that is wrong, each in its own way, for three sheets.
FAULTS = [
    (3, (0,)), (-1, (0,)), (0, (3,)), (0, (-1,)), (0, (1, 3)), (0, ()), (0, (2, 1)), (0, (1, 1)),
    (0, (0,)), (1, (0, 1)), (1, (1, 2)), (-3, (0,)),
]
TWICE = [(1, (0,)), (1, (0,))]
ASKED = {
    "lines": lambda count, log: lines(count, log),
    "find_ring": lambda count, log: find_ring(count, log),
    "is_ring": lambda count, log: is_ring(count, log, []),
    "is_ring of no line": lambda count, log: is_ring(count, log, [(99, 99)]),
    "least_start": lambda count, log: least_start(count, log),
    "told_gap": lambda count, log: told_gap(count, log, 0, 1),
    "told_gap of one sheet": lambda count, log: told_gap(count, log, 1, 1),
    "told_heights": lambda count, log: told_heights(count, log),
}


def traced_back(log, sheet):
    """Return where a sheet after the log came from, and how many deeds it took."""
    wear = 0
    for source, targets in reversed(log):
        if sheet == source or sheet in targets:
            sheet = source
            wear += 1
    return sheet, wear


def lines_by_words(log):
    found = []
    for position, (source, targets) in enumerate(log):
        for target in targets:
            upper, wear = traced_back(log[:position], source)
            lower, worn = traced_back(log[:position], target)
            found.append((position, target, upper, lower, 1 + wear - worn))
    return found


def allows(told, log):
    """Return whether a sheaf with these sharpnesses allows the log."""
    now = list(told)
    for source, targets in log:
        if not all(now[target] < now[source] for target in targets):
            return False
        worn = now[source] - 1
        for index in (source, *targets):
            now[index] = worn
    return True


def starts(count, log, most):
    """Return all lists of sharpnesses from 0 to the most that allow the log."""
    return [told for told in product(range(most + 1), repeat=count) if allows(told, log)]


def some_deeds(chance, count, many, breadth):
    log = []
    for _ in range(many):
        source = chance.randrange(count)
        others = [index for index in range(count) if index != source]
        targets = chance.sample(others, chance.randint(1, min(breadth, count - 1)))
        log.append((source, tuple(sorted(targets))))
    return log


def small_logs(seed, many, counts=(2, 3, 3, 4), most=5):
    chance = Random(seed)
    for _ in range(many):
        count = chance.choice(counts)
        yield count, some_deeds(chance, count, chance.randint(0, most), 2)


def logs_of_sheaves(seed, many, most=6):
    """Yield logs that some small sheaf allows."""
    chance = Random(seed)
    for _ in range(many):
        count = chance.choice((3, 3, 4))
        sheaf = sheaf_of(*[chance.randint(0, 5) for _ in range(count)])
        yield count, some_log(sheaf, 2, chance, most=most)[0]


class TestInvalidDeeds(unittest.TestCase):
    def test_each_fault_at_each_position(self):
        for name, ask in ASKED.items():
            for fault in FAULTS:
                for before in ([], [(1, (0,))], [(1, (0,)), (2, (0, 1))]):
                    with self.subTest(name, fault=fault):
                        error = error_of(InvalidDeed, ask, 3, before + [fault])
                        self.assertEqual(error.position, len(before))

    def test_the_first_of_several(self):
        for name, ask in ASKED.items():
            with self.subTest(name):
                error = error_of(InvalidDeed, ask, 3, [(1, (0,)), (0, (3,)), (0, ()), (9, (0,))])
                self.assertEqual(error.position, 1)

    def test_ahead_of_contradictions(self):
        for name, ask in ASKED.items():
            for fault in FAULTS:
                with self.subTest(name, fault=fault):
                    self.assertEqual(error_of(InvalidDeed, ask, 3, TWICE + [fault]).position, 2)
                    error = error_of(InvalidDeed, ask, 3, [fault] + TWICE)
                    self.assertEqual(error.position, 0)

    def test_the_number_of_sheets_decides(self):
        for name, ask in ASKED.items():
            with self.subTest(name):
                ask(3, [(2, (0, 1))])
                self.assertEqual(error_of(InvalidDeed, ask, 2, [(2, (0, 1))]).position, 0)
                self.assertEqual(error_of(InvalidDeed, ask, 1, [(1, (0,))]).position, 0)


class TestLines(unittest.TestCase):
    def test_no_deed(self):
        self.assertEqual(lines(1, []), [])
        self.assertEqual(lines(5, []), [])

    def test_several_targets(self):
        log = [(2, (0, 1)), (3, (0, 2)), (1, (0,))]
        # Sheet 1 then bears what sheet 2 was, worn once; sheet 0 what sheet 3 was.
        self.assertEqual(lines(4, log), [
            (0, 0, 2, 0, 1), (0, 1, 2, 1, 1), (1, 0, 3, 2, 0), (1, 2, 3, 2, 0), (2, 0, 2, 3, 1),
        ])

    def test_the_same_origin(self):
        log = [(1, (0,)), (2, (0,)), (1, (2,)), (1, (2,))]
        self.assertEqual(lines(3, log)[-2:], [(2, 2, 1, 2, 1), (3, 2, 1, 1, 1)])

    def test_gains_below_1(self):
        log = [(1, (0,)), (1, (2,)), (3, (1,))]
        self.assertEqual(lines(4, log)[-1], (2, 1, 3, 1, -1))

    def test_against_following_back(self):
        chance = Random(201)
        gains = set()
        same = 0
        for _ in range(150):
            count = chance.randint(2, 7)
            log = some_deeds(chance, count, chance.randint(0, 12), 4)
            found = lines(count, log)
            self.assertIsInstance(found, list)
            self.assertEqual(found, lines_by_words(log))
            self.assertEqual(found, sorted(found))
            gains |= {line[4] for line in found}
            same += len([line for line in found if line[2] == line[3]])
        self.assertTrue({-2, -1, 0, 1, 2, 3} <= gains)
        self.assertGreater(same, 20)

    def test_gains_decide_which_sheaves_allow_a_log(self):
        for count, log in small_logs(202, 150):
            found = lines(count, log)
            for told in product(range(5), repeat=count):
                kept = all(told[line[2]] - told[line[3]] >= line[4] for line in found)
                self.assertEqual(allows(told, log), kept)


class TestRings(unittest.TestCase):
    def look(self, wanted, count, log, ring):
        self.assertIs(is_ring(count, log, ring), wanted, (log, ring))

    def test_example(self):
        self.assertEqual(find_ring(2, TWICE), [(1, 0)])
        self.look(True, 2, TWICE, [(1, 0)])

    def test_no_ring(self):
        for log in ([], [(1, (0,))], [(2, (1,)), (1, (0,))], [(1, (0,)), (2, (0, 1))]):
            self.assertIsNone(find_ring(3, log))
            self.look(False, 3, log, [])
            self.look(False, 3, log, [(0, 0)])

    def test_the_empty_list(self):
        for log in ([], [(1, (0,))], TWICE):
            self.look(False, 2, log, [])

    def test_what_is_no_line(self):
        for pair in [(0, 1), (2, 0), (-1, 0), (1, 1), (1, -1), (0, -2), (5, 5)]:
            self.look(False, 2, TWICE, [pair])
            self.look(False, 2, TWICE, [(1, 0), pair])
            self.look(False, 2, TWICE, [pair, (1, 0)])

    def test_a_ring_of_three(self):
        # Each of three sheets has to be sharper than the next at the start.
        log = [(0, (3,)), (1, (4,)), (2, (5,)), (3, (1,)), (4, (2,)), (5, (0,))]
        found = lines(6, log)
        self.assertEqual([line[2:] for line in found[3:]], [(0, 1, 1), (1, 2, 1), (2, 0, 1)])
        ring = [(3, 1), (4, 2), (5, 0)]
        self.look(True, 6, log, ring)
        self.look(True, 6, log, ring[1:] + ring[:1])
        self.look(True, 6, log, ring[2:] + ring[:2])
        self.look(False, 6, log, ring[::-1])
        self.look(False, 6, log, [ring[1], ring[0], ring[2]])
        self.look(False, 6, log, ring + ring)
        self.look(False, 6, log, ring + ring[:1])
        for place in range(3):
            self.look(False, 6, log, ring[:place] + ring[place + 1:])
            self.look(False, 6, log, ring[:place] + ring[place:place + 1] * 2 + ring[place + 1:])
            self.look(False, 6, log, ring[:place] + [(0, 3)] + ring[place + 1:])
        self.assertEqual(sorted(find_ring(6, log)), ring)

    def test_one_sheet_may_be_passed_twice(self):
        # From sheet 0 to sheet 1 and back, then to sheet 2 and back.
        log = [(0, (3,)), (1, (4,)), (2, (5,)), (3, (1,)), (4, (0,)), (3, (2,)), (5, (3,))]
        found = {line[:2]: line[2:] for line in lines(6, log)}
        ring = [(3, 1), (4, 0), (5, 2), (6, 3)]
        self.assertEqual(
            [found[pair] for pair in ring], [(0, 1, 1), (1, 0, 1), (0, 2, 2), (2, 0, -1)]
        )
        self.look(True, 6, log, ring)
        self.look(True, 6, log, ring[1:] + ring[:1])
        self.look(True, 6, log, ring[:2])
        self.look(True, 6, log, ring[2:])
        self.look(False, 6, log, ring + ring)
        self.look(False, 6, log, ring[:2] + ring[:2])
        self.look(False, 6, log, ring[:3])

    def test_gains_that_add_up_to_less_than_1(self):
        log = [(1, (0,)), (1, (2,)), (3, (1,)), (0, (3,))]
        found = {line[:2]: line[2:] for line in lines(4, log)}
        self.assertEqual((found[(2, 1)], found[(3, 3)]), ((3, 1, -1), (1, 3, 1)))
        self.look(False, 4, log, [(2, 1), (3, 3)])
        self.look(False, 4, log, [(3, 3), (2, 1)])
        self.assertIsNone(find_ring(4, log))
        self.assertEqual((told_gap(4, log, 1, 3), told_gap(4, log, 3, 1)), (1, -1))

    def test_against_small_sheaves(self):
        seen = {True: 0, False: 0}
        for count, log in small_logs(203, 400):
            ring = find_ring(count, log)
            possible = bool(starts(count, log, 6))
            seen[possible] += 1
            self.assertEqual(ring is None, possible, log)
            if not possible:
                self.assertIsInstance(ring, list)
                self.look(True, count, log, ring)
                self.look(False, count, log, ring + ring)
        self.assertGreater(min(seen.values()), 100)

    def test_all_lists_of_lines_against_the_words(self):
        found = {True: 0, False: 0}
        for count, log in small_logs(204, 60, counts=(3,), most=4):
            told = {line[:2]: line[2:] for line in lines(count, log)}
            for many in (1, 2, 3):
                for ring in product(told, repeat=many):
                    closed = all(
                        told[first][1] == told[second][0]
                        for first, second in zip(ring, ring[1:] + ring[:1])
                    )
                    gains = sum(told[pair][2] for pair in ring)
                    wanted = closed and gains >= 1 and len(set(ring)) == many
                    found[wanted] += 1
                    self.look(wanted, count, log, list(ring))
        self.assertGreater(min(found.values()), 50)

    def test_long_logs(self):
        chance = Random(205)
        for breadth in (1, 5, 39):
            log = some_deeds(chance, 40, 200, breadth)
            ring = find_ring(40, log)
            self.look(True, 40, log, ring)


class TestStarts(unittest.TestCase):
    def test_examples(self):
        self.assertEqual(least_start(2, [(1, (0,))]), [0, 1])
        self.assertEqual(told_gap(2, [(1, (0,))], 1, 0), 1)
        self.assertEqual(error_of(ContradictoryLog, least_start, 2, TWICE).position, 1)

    def test_no_deed(self):
        self.assertEqual(least_start(3, []), [0, 0, 0])
        self.assertIsNone(told_gap(3, [], 0, 1))
        self.assertEqual(told_gap(3, [], 1, 1), 0)

    def test_gaps(self):
        log = [(1, (0,)), (2, (1,))]
        # Sheet 1 had to be 1 above sheet 0, and sheet 2 still above the worn sheet 1.
        self.assertEqual(least_start(3, log), [0, 1, 1])
        gaps = {pair: told_gap(3, log, *pair) for pair in product(range(3), repeat=2)}
        self.assertEqual(gaps, {
            (0, 0): 0, (1, 1): 0, (2, 2): 0, (1, 0): 1, (2, 1): 0, (2, 0): 1,
            (0, 1): None, (0, 2): None, (1, 2): None,
        })
        self.assertEqual(told_gap(4, [(1, (0,)), (1, (2,)), (3, (1,))], 3, 1), -1)
        self.assertEqual(told_gap(4, [(1, (0,)), (1, (2,)), (3, (1,))], 3, 2), 1)

    def test_ways_against_the_order_of_the_lines(self):
        # Sheet 2 takes sheet 1 only when sheet 3 has gone on with its record.
        log = [(1, (3,)), (2, (1,)), (3, (0,))]
        self.assertEqual([line[2:] for line in lines(4, log)], [(1, 3, 1), (2, 1, 0), (1, 0, 2)])
        self.assertEqual((told_gap(4, log, 1, 0), told_gap(4, log, 2, 0)), (2, 2))
        self.assertEqual(least_start(4, log), [0, 2, 2, 0])

    def test_against_small_sheaves(self):
        gaps = set()
        for count, log in list(small_logs(206, 100)) + list(logs_of_sheaves(213, 150)):
            good = starts(count, log, 6)
            if not good:
                continue
            least = least_start(count, log)
            self.assertEqual(least, [min(told[k] for told in good) for k in range(count)])
            self.assertIn(tuple(least), good)
            for upper, lower in product(range(count), repeat=2):
                gap = told_gap(count, log, upper, lower)
                gaps.add(gap)
                if upper == lower:
                    self.assertEqual(gap, 0)
                elif gap is not None:
                    self.assertEqual(gap, min(told[upper] - told[lower] for told in good))
                else:
                    # The lower sheet can then be as much sharper as one likes.
                    far = [told[upper] - told[lower] for told in starts(count, log, 9)]
                    self.assertLess(min(far), min(told[upper] - told[lower] for told in good))
        self.assertTrue({-1, 0, 1, 2, None} <= gaps)

    def test_contradictions(self):
        positions = set()
        chance = Random(214)
        longer = [
            (count, log + some_deeds(chance, count, 2, 2))
            for count, log in logs_of_sheaves(215, 100, most=4)
        ]
        for count, log in longer + list(small_logs(207, 50)):
            if starts(count, log, 6):
                continue
            least = 0
            while starts(count, log[:least + 1], 6):
                least += 1
            positions.add(least)
            self.assertEqual(error_of(ContradictoryLog, least_start, count, log).position, least)
            for upper, lower in product(range(count), repeat=2):
                error = error_of(ContradictoryLog, told_gap, count, log, upper, lower)
                self.assertEqual(error.position, least)
        self.assertTrue({1, 2, 3, 4} <= positions)

    def test_one_sheet_with_itself_in_a_contradiction(self):
        self.assertEqual(error_of(ContradictoryLog, told_gap, 3, TWICE, 2, 2).position, 1)
        log = [(0, (2,))] + TWICE + [(0, (2,))]
        self.assertEqual(error_of(ContradictoryLog, told_gap, 3, log, 1, 1).position, 2)

    def test_two_hundred_deeds_over_forty_sheets(self):
        chance = Random(208)
        for breadth in (1, 3, 39):
            sheaf = sheaf_of(*[chance.randint(0, 60) for _ in range(40)])
            log, rows = some_log(sheaf, breadth, chance, most=200)
            self.assertEqual(len(log) == 200, breadth == 1)
            low = min(sharpness for sharpness, _ in sheaf.rows())
            told = [sharpness - low for sharpness, _ in sheaf.rows()]
            least = least_start(40, log)
            self.assertTrue(allows(least, log))
            self.assertTrue(all(0 <= first <= second for first, second in zip(least, told)))
            for index in range(40):
                lower = list(least)
                lower[index] -= 1
                self.assertFalse(allows(lower, log) and lower[index] >= 0)
            for _ in range(12):
                upper, lower = chance.sample(range(40), 2)
                gap = told_gap(40, log, upper, lower)
                if gap is not None:
                    self.assertLessEqual(gap, told[upper] - told[lower])
                    self.assertLessEqual(gap, least[upper] - least[lower])

    def test_a_late_contradiction(self):
        chance = Random(209)
        sheaf = sheaf_of(*[chance.randint(0, 60) for _ in range(40)])
        log, rows = some_log(sheaf, 2, chance, most=150)
        self.assertGreater(len(log), 100)
        wrong = log + [(0, (1,)), (0, (1,)), (0, (1,))]
        position = error_of(ContradictoryLog, least_start, 40, wrong).position
        self.assertIn(position, (len(log), len(log) + 1))
        least_start(40, wrong[:position])


class TestToldHeights(unittest.TestCase):
    def test_example(self):
        self.assertEqual(told_heights(2, TWICE), [None, 2])

    def test_no_deed(self):
        self.assertEqual(told_heights(3, []), [0, 0, 0])

    def test_origins_without_sheets(self):
        self.assertEqual(told_heights(3, [(2, (0,))]), [None, 0, 1])
        self.assertEqual(told_heights(3, [(2, (0, 1))]), [None, None, 1])

    def test_different_wears(self):
        self.assertIsNone(told_heights(3, [(2, (1,)), (2, (0,))]))
        self.assertIsNone(told_heights(3, [(2, (1,)), (1, (0,))]))
        self.assertEqual(told_heights(3, [(2, (1,)), (1, (0,)), (2, (1,))]), [None, None, 2])

    def test_logs_that_are_not_possible(self):
        self.assertIsNotNone(find_ring(3, [(0, (1,)), (1, (0,))]))
        self.assertEqual(told_heights(3, [(0, (1,)), (1, (0,))]), [2, None, 0])
        self.assertEqual(told_heights(3, TWICE + [(1, (2,)), (0, (2,))]), [None, 3, None])
        self.assertIsNone(told_heights(3, TWICE + [(1, (2,))]))

    def test_complete_logs(self):
        chance = Random(210)
        for sheaf in some_sheaves(211, 60, most_sheets=12):
            for breadth in (1, 3):
                log, rows = complete_log(sheaf, breadth, chance)
                end = rows[0][0]
                heights = told_heights(len(sheaf), log)
                self.assertIsInstance(heights, list)
                origins = {traced_back(log, index)[0] for index in range(len(sheaf))}
                for index, (sharpness, _) in enumerate(sheaf.rows()):
                    wanted = sharpness - end if index in origins else None
                    self.assertEqual(heights[index], wanted)

    def test_against_following_back(self):
        answers = {True: 0, False: 0}
        for count, log in small_logs(212, 200):
            wears = {}
            for index in range(count):
                origin, wear = traced_back(log, index)
                wears.setdefault(origin, set()).add(wear)
            if max(len(found) for found in wears.values()) > 1:
                wanted = None
            else:
                wanted = [min(wears.get(index, {None})) for index in range(count)]
            answers[wanted is None] += 1
            self.assertEqual(told_heights(count, log), wanted)
        self.assertGreater(min(answers.values()), 30)


if __name__ == "__main__":
    unittest.main()
