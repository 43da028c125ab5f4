import unittest
from itertools import combinations, permutations
from random import Random

from tests.helpers import (
    BREADTHS, all_deeds, all_demands, complete_log, finals, letters, reasons_by_words,
    shares_of_rows, sheaf_of, small_record_sheaves, small_sheaves, some_log, some_sheaves,
)
from wornsheaf.deeds import apply_deed, replay
from wornsheaf.demands import can_meet, footing, met_ends
from wornsheaf.ends import cap, high_end, low_end, possible_ends
from wornsheaf.errors import Impossible, InvalidDeed, InvalidDemands, UnknownRecord
from wornsheaf.keeping import (
    dearest_kept, greatest_share, keepsakes, kept_ends, kept_floor, kept_floors, most_kept, room,
    swap_choices,
)
from wornsheaf.sheaf import Sheaf

STAIRS = sheaf_of(0, 1, 2)
PAIR = Sheaf([(0, "a"), (0, "b"), (1, "c")])


def lists_of(records):
    """Return all lists of these records, each in one order."""
    return [list(told) for many in range(len(records) + 1) for told in combinations(records, many)]


def carried_by_search(sheaf, end, breadth):
    """Return the sets of records that are borne after some complete log."""
    return [
        {record for record, _ in shares}
        for found, shares in finals(sheaf.rows(), breadth) if found == end
    ]


class KeepingTest(unittest.TestCase):
    def unknown(self, record, ask, *arguments, **more):
        with self.assertRaises(UnknownRecord) as caught:
            ask(*arguments, **more)
        self.assertEqual(caught.exception.record, record)

    def impossible(self, reason, ask, *arguments, **more):
        with self.assertRaises(Impossible) as caught:
            ask(*arguments, **more)
        self.assertEqual(caught.exception.reason, reason)


class TestKeepsakes(KeepingTest):
    def test_sharpest_sheets_and_lowest_indexes(self):
        sheaf = Sheaf([(0, "a"), (2, "b"), (3, "a"), (2, "b"), (3, "a"), (-1, "c"), (1, "b")])
        self.assertEqual(keepsakes(sheaf, ["a"]), {"a": 2})
        self.assertEqual(keepsakes(sheaf, ["c", "a", "b"]), {"a": 2, "b": 1, "c": 5})
        self.assertEqual(keepsakes(sheaf, []), {})

    def test_against_the_words(self):
        for sheaf in some_sheaves(121, 60, span=3):
            found = keepsakes(sheaf, sheaf.records())
            for record in sheaf.records():
                best = max(sheaf.sheets_of(record), key=lambda k: (sheaf.sharpness_of(k), -k))
                self.assertEqual(found.pop(record), best)
            self.assertEqual(found, {})

    def test_unknown_record_of_a_kept_list(self):
        for kept, record in [
            (["x"], "x"), (["a", "x"], "x"), (["z", "a", "x"], "z"), (["b", "x", "c", "d"], "x"),
        ]:
            self.unknown(record, keepsakes, STAIRS, kept)
            self.unknown(record, kept_floor, STAIRS, kept)
            self.unknown(record, kept_ends, STAIRS, kept, breadth=2)
            self.unknown(record, kept_floors, STAIRS, kept, [])
            self.unknown(record, kept_floors, STAIRS, kept, [(9, ())], breadth=2)
            self.unknown(record, swap_choices, STAIRS, 99, kept, "q")


class TestFloors(KeepingTest):
    def test_example(self):
        self.assertEqual(kept_ends(PAIR, ["a", "b"]), [])

    def test_floor_by_the_footing(self):
        for sheaf in small_record_sheaves(4, 3):
            for kept in lists_of(sheaf.records()):
                aside = list(keepsakes(sheaf, kept).values())
                self.assertEqual(kept_floor(sheaf, kept), footing(sheaf, aside))
        self.assertEqual(kept_floor(STAIRS, ["c"]), 0)
        self.assertEqual(kept_floor(STAIRS, ["b", "c"]), 1)
        self.assertEqual(kept_floor(STAIRS, ["a", "b", "c"]), 2)

    def test_empty_list(self):
        for sheaf in list(small_sheaves(3, 4)) + list(some_sheaves(122, 20)):
            self.assertEqual(kept_floor(sheaf, []), low_end(sheaf))
            for breadth in BREADTHS:
                ends = possible_ends(sheaf, breadth=breadth)
                self.assertEqual(kept_ends(sheaf, [], breadth=breadth), ends)

    def test_ends_by_the_words(self):
        sheaf = Sheaf([(0, "a"), (0, "b"), (0, "c"), (2, "d"), (3, "e")])
        # The reach is 7 at the end 1, and 15 at the end 0; low end and floors are counted.
        self.assertEqual(high_end(sheaf), 1)
        self.assertEqual(kept_ends(sheaf, ["d"]), [0, 1])
        self.assertEqual(kept_ends(sheaf, ["a"]), [0])
        self.assertEqual(kept_ends(sheaf, ["a", "d"]), [])
        self.assertEqual(kept_ends(sheaf, ["e", "d"]), [0, 1])
        self.assertEqual(kept_ends(sheaf, ["e", "d"], breadth=6), [0, 1, 2])
        self.assertEqual(kept_ends(sheaf, ["e", "a"], breadth=6), [0])

    def test_ends_against_demands_of_1(self):
        for sheaf in list(small_record_sheaves(4, 3)) + list(some_sheaves(123, 30, span=6)):
            for kept in lists_of(sheaf.records()):
                for breadth in (1, 3):
                    ends = kept_ends(sheaf, kept, breadth=breadth)
                    demands = {record: 1 for record in kept}
                    self.assertEqual(ends, met_ends(sheaf, demands, breadth=breadth))

    def test_ends_against_search(self):
        for breadth in (1, 2):
            for sheaf in list(small_sheaves(4, 4)) + list(small_record_sheaves(4, 2)):
                carried = {
                    end: carried_by_search(sheaf, end, breadth)
                    for end in range(sheaf.bottom, sheaf.top + 1)
                }
                for kept in lists_of(sheaf.records()):
                    ends = [end for end in carried if any(set(kept) <= s for s in carried[end])]
                    self.assertEqual(kept_ends(sheaf, kept, breadth=breadth), ends)

    def test_no_deed_lowers_a_floor(self):
        rises = 0
        for sheaf in list(small_sheaves(4, 3)) + list(small_record_sheaves(4, 2)):
            for deed in all_deeds(sheaf, 3):
                later = apply_deed(sheaf, deed, breadth=3)
                for kept in lists_of(later.records()):
                    self.assertGreaterEqual(kept_floor(later, kept), kept_floor(sheaf, kept))
                    rises += kept_floor(later, kept) > kept_floor(sheaf, kept)
        self.assertGreater(rises, 100)


class TestKeptFloors(KeepingTest):
    def test_floors_along_a_log(self):
        log = [(1, (0,)), (2, (1,)), (2, (0,))]
        # The sheaf is 0:a 1:b 2:c, then 0:b 0:b 2:c, then 0:b 1:c 1:c, then 0:c 1:c 0:c.
        self.assertEqual(kept_floors(STAIRS, [], log), [0, 0, 0, 0])
        self.assertEqual(kept_floors(STAIRS, ["c"], log), [0, 0, 0, 0])
        self.assertEqual(kept_floors(STAIRS, ["b", "c"], log), [1, 1, 1])
        self.assertEqual(kept_floors(STAIRS, ["a"], log), [1])
        self.assertEqual(kept_floors(STAIRS, ["c", "a", "b"], log), [2])
        self.assertEqual(kept_floors(STAIRS, ["c", "a", "b"], []), [2])

    def test_against_the_words(self):
        chance = Random(124)
        for sheaf in some_sheaves(125, 60, most_sheets=9, span=6):
            log = complete_log(sheaf, 2, chance)[0]
            for kept in lists_of(sheaf.records())[::3]:
                floors = []
                for stop in range(len(log) + 1):
                    state = replay(sheaf, log[:stop], breadth=2)
                    if not set(kept) <= set(state.records()):
                        break
                    floors.append(kept_floor(state, kept))
                self.assertEqual(kept_floors(sheaf, kept, log, breadth=2), floors)
                self.assertEqual(floors, sorted(floors))

    def refused(self, position, kept, log, breadth=1):
        with self.assertRaises(InvalidDeed) as caught:
            kept_floors(STAIRS, kept, log, breadth=breadth)
        self.assertEqual(caught.exception.position, position)

    def test_deeds_that_are_not_allowed(self):
        self.refused(0, [], [(0, (1,))])
        self.refused(0, ["a", "c"], [(2, (0, 1))])
        self.refused(1, ["c"], [(2, (0,)), (2, (0,))])
        # Behind the last sheaf that has an item, too.
        self.refused(1, ["a"], [(2, (0,)), (2, (1,))])
        self.refused(3, ["a"], [(1, (0,)), (2, (1,)), (2, (0,)), (9, (0,))])
        self.assertEqual(kept_floors(STAIRS, ["c"], [(2, (0, 1))], breadth=2), [0, 1])


class TestMostKept(KeepingTest):
    def test_against_all_sets_of_records(self):
        for breadth in (1, 2):
            for sheaf in list(small_sheaves(4, 4)) + list(small_record_sheaves(4, 2)):
                for end in possible_ends(sheaf, breadth=breadth):
                    carried = carried_by_search(sheaf, end, breadth)
                    most = max(
                        len(kept) for kept in lists_of(sheaf.records())
                        if any(set(kept) <= told for told in carried)
                    )
                    self.assertEqual(most_kept(sheaf, end, breadth=breadth), most)

    def test_formula_for_different_records(self):
        chance = Random(126)
        sheaves = list(small_sheaves(4, 5))
        for count in (7, 24, 40):
            sheaves.append(sheaf_of(*[chance.randint(-5, 9) for _ in range(count)]))
        sheaves.append(sheaf_of(*range(40)))
        for sheaf in sheaves:
            for breadth in (1, 2, 6):
                for end in possible_ends(sheaf, breadth=breadth):
                    fainter = len([row for row in sheaf.rows() if row[0] < end])
                    wanted = len(sheaf) - max(sheaf.top - end, fainter)
                    self.assertEqual(most_kept(sheaf, end, breadth=breadth), wanted)

    def test_end_that_is_not_possible(self):
        for end in (-1000, -1, 2, 3, 1000):
            reason = reasons_by_words(STAIRS, end, {}, 1)[0]
            self.impossible(reason, most_kept, STAIRS, end)
            self.impossible(reason, dearest_kept, STAIRS, end, {})
            self.impossible(reason, dearest_kept, STAIRS, end, {"a": 3})
        self.impossible(("reach", 1), most_kept, sheaf_of(0, 0, 1), 1, breadth=6)
        self.assertEqual(most_kept(sheaf_of(0, 0, 0, 2), 1, breadth=3), 1)
        self.impossible(("reach", 3), most_kept, sheaf_of(0, 0, 0, 2), 1, breadth=2)
        self.impossible(("reach", 2), most_kept, sheaf_of(0, 0, 0, 2), 1)


class TestDearestKept(KeepingTest):
    def test_order_of_equal_prices(self):
        sheaf = Sheaf([(0, "c"), (0, "b"), (0, "a"), (1, "d")])
        for prices, wanted in [
            ({"a": 1, "b": 1, "c": 1, "d": 1}, ["a", "b", "d"]),
            ({"c": 2, "b": 1, "a": 1, "d": 1}, ["a", "c", "d"]),
            ({"c": 2, "b": 2, "a": 1, "d": 1}, ["b", "c", "d"]),
            ({"c": 5, "b": 5, "a": 5}, ["a", "b"]),
            ({"c": 5, "d": 1}, ["c", "d"]),
            ({"b": 1000}, ["b"]),
            ({}, []),
        ]:
            self.assertEqual(dearest_kept(sheaf, 0, prices), wanted)

    def test_dearer_first(self):
        self.assertEqual(dearest_kept(STAIRS, 0, {"a": 2, "b": 3, "c": 1}), ["c"])
        self.assertEqual(dearest_kept(STAIRS, 1, {"a": 2, "b": 3, "c": 1}), ["b", "c"])
        sheaf = sheaf_of(0, 1, 2, 2)
        self.assertEqual(dearest_kept(sheaf, 1, {"a": 9, "b": 1, "c": 2, "d": 3}), ["b", "c", "d"])

    def test_unknown_records(self):
        self.unknown("x", dearest_kept, STAIRS, 1, {"z": 1, "a": 1, "x": 1})
        self.unknown("0", dearest_kept, STAIRS, 1, {"c": 9, "0": 1})
        self.unknown("x", dearest_kept, STAIRS, 99, {"x": 1}, breadth=2)

    def by_words(self, sheaf, end, prices, breadth):
        chosen = []
        for record in sorted(prices, key=lambda name: (-prices[name], name)):
            if can_meet(sheaf, end, {name: 1 for name in chosen + [record]}, breadth=breadth):
                chosen.append(record)
        return sorted(chosen)

    def test_greatest_total_of_all_sets(self):
        chance = Random(127)
        for breadth in (1, 2):
            for sheaf in list(small_sheaves(4, 4)) + list(small_record_sheaves(4, 2, "abc")):
                for end in possible_ends(sheaf, breadth=breadth):
                    carried = carried_by_search(sheaf, end, breadth)
                    prices = {
                        record: chance.randint(1, 4) for record in sheaf.records()
                        if chance.random() < 0.8
                    }
                    found = dearest_kept(sheaf, end, prices, breadth=breadth)
                    self.assertEqual(found, self.by_words(sheaf, end, prices, breadth))
                    self.assertTrue(any(set(found) <= told for told in carried))
                    best = max(sum(prices.get(name, 0) for name in told) for told in carried)
                    self.assertEqual(sum(prices[record] for record in found), best)

    def test_many_sheets(self):
        chance = Random(128)
        for told in [list(range(40)), [0] * 20 + list(range(20)), [0] * 38 + [6, 6]]:
            sheaf = sheaf_of(*told)
            prices = {record: chance.randint(1, 9) for record in letters(40)}
            for end in possible_ends(sheaf, breadth=3)[::4]:
                found = dearest_kept(sheaf, end, prices, breadth=3)
                self.assertEqual(found, self.by_words(sheaf, end, prices, 3))
                self.assertEqual(len(found), most_kept(sheaf, end, breadth=3))


def room_by_words(sheaf, end, height):
    return len([row for row in sheaf.rows() if row[0] <= height]) - height - 1 + end


class TestRooms(KeepingTest):
    def test_rooms(self):
        sheaf = sheaf_of(0, 0, 0, 2, 5)
        self.assertEqual([room(sheaf, 0, height) for height in range(5)], [2, 1, 1, 0, -1])
        self.assertEqual([room(sheaf, 1, height) for height in range(1, 5)], [2, 2, 1, 0])
        self.assertEqual(room(sheaf, -3, -3), -1)

    def test_against_the_words(self):
        for sheaf in some_sheaves(129, 30):
            for end in range(sheaf.bottom - 1, sheaf.top + 1):
                for height in range(end, sheaf.top):
                    self.assertEqual(room(sheaf, end, height), room_by_words(sheaf, end, height))

    def test_rooms_tell_what_can_be_carried(self):
        for sheaf in list(small_sheaves(4, 4)) + list(small_record_sheaves(4, 2)):
            for end in possible_ends(sheaf, breadth=2):
                for kept in lists_of(sheaf.records()):
                    told = [sheaf.sharpness_of(k) for k in keepsakes(sheaf, kept).values()]
                    finds_room = all(s >= end for s in told) and all(
                        len([s for s in told if s <= height]) <= room(sheaf, end, height)
                        for height in range(end, sheaf.top)
                    )
                    self.assertEqual(finds_room, end in kept_ends(sheaf, kept, breadth=2))


class TestSwapChoices(KeepingTest):
    def test_examples(self):
        self.assertEqual(swap_choices(PAIR, 0, ["a"], "b"), (False, ["a"]))
        self.assertEqual(swap_choices(PAIR, 0, ["a"], "c"), (True, []))

    def test_empty_list(self):
        self.assertEqual(swap_choices(STAIRS, 1, [], "c"), (True, []))
        self.assertEqual(swap_choices(STAIRS, 1, [], "a"), (False, []))
        self.assertEqual(swap_choices(STAIRS, 0, [], "b"), (False, []))

    def test_errors_in_their_order(self):
        self.unknown("x", swap_choices, STAIRS, 99, ["a", "x", "w"], "q", breadth=2)
        self.unknown("q", swap_choices, STAIRS, 99, ["a"], "q")
        self.unknown("q", swap_choices, STAIRS, 0, [], "q")
        self.impossible(("reach", 0), swap_choices, STAIRS, 99, ["a"], "b")
        self.impossible(("record", "a", 0), swap_choices, STAIRS, 1, ["a"], "b")
        self.impossible(("height", 1, 1), swap_choices, STAIRS, 0, ["c", "b"], "a")
        self.impossible(("reach", 2), swap_choices, sheaf_of(0, 0, 0, 2), 1, [], "d")
        self.assertEqual(swap_choices(sheaf_of(0, 0, 0, 2), 1, [], "d", breadth=3), (True, []))

    def test_choices_come_in_ascending_order(self):
        sheaf = Sheaf([(0, "d"), (0, "b"), (0, "e"), (0, "a"), (1, "c")])
        self.assertEqual(
            swap_choices(sheaf, 0, ["e", "b", "d"], "a"), (False, ["b", "d", "e"])
        )
        self.assertEqual(swap_choices(sheaf, 0, ["e", "c", "d"], "a"), (True, []))
        self.assertEqual(
            swap_choices(sheaf, 0, ["e", "c", "d", "a"], "b"), (False, ["a", "d", "e"])
        )

    def test_each_record_tried_by_search(self):
        seen = set()
        for breadth in (1, 2):
            for sheaf in list(small_sheaves(4, 4)) + list(small_record_sheaves(4, 2, "abc")):
                for end in possible_ends(sheaf, breadth=breadth):
                    carried = carried_by_search(sheaf, end, breadth)
                    for kept in lists_of(sheaf.records()):
                        for record in set(sheaf.records()) - set(kept):
                            if any(set(kept) <= told for told in carried):
                                found = swap_choices(sheaf, end, kept, record, breadth=breadth)
                                wanted = self.by_search(carried, kept, record)
                                self.assertEqual(found, wanted)
                                seen.add((found[0], len(found[1])))
        self.assertLessEqual({(True, 0), (False, 0), (False, 1), (False, 2)}, seen)

    def by_search(self, carried, kept, record):
        if any({*kept, record} <= told for told in carried):
            return True, []
        return False, [
            other for other in sorted(kept)
            if any(({*kept, record} - {other}) <= told for told in carried)
        ]

    def test_choices_by_the_least_full_height(self):
        several = 0
        for sheaf in list(small_sheaves(5, 4)) + [sheaf_of(0, 0, 1, 1, 3, 3, 4, 4, 6)]:
            for end in possible_ends(sheaf):
                for kept in lists_of(sheaf.records()):
                    if end not in kept_ends(sheaf, kept):
                        continue
                    marks = keepsakes(sheaf, sheaf.records())
                    told = {record: sheaf.sharpness_of(marks[record]) for record in marks}
                    full = [
                        height for height in range(end, sheaf.top)
                        if len([r for r in kept if told[r] <= height]) == room(sheaf, end, height)
                    ]
                    for record in set(sheaf.records()) - set(kept):
                        above = [height for height in full if height >= told[record]]
                        fits, choices = swap_choices(sheaf, end, kept, record)
                        if told[record] < end:
                            self.assertEqual((fits, choices), (False, []))
                        elif above:
                            several += len(above) > 1
                            wanted = sorted(r for r in kept if told[r] <= min(above))
                            self.assertEqual((fits, choices), (False, wanted))
                        else:
                            self.assertEqual((fits, choices), (True, []))
        self.assertGreater(several, 50)


class TestGreatestShare(KeepingTest):
    def test_against_one_more(self):
        for breadth in (1, 2):
            for sheaf in list(small_sheaves(4, 4)) + list(small_record_sheaves(4, 2)):
                for demands in [{}] + list(all_demands(sheaf.records()[:2], 2)):
                    for end in met_ends(sheaf, demands, breadth=breadth):
                        for record in sheaf.records():
                            self.check(sheaf, end, demands, record, breadth)

    def check(self, sheaf, end, demands, record, breadth):
        share = greatest_share(sheaf, end, demands, record, breadth=breadth)
        self.assertGreaterEqual(share, demands.get(record, 0))
        least = {**demands, record: share}
        self.assertTrue(can_meet(sheaf, end, least, breadth=breadth))
        more = {**demands, record: share + 1}
        self.assertFalse(can_meet(sheaf, end, more, breadth=breadth))
        one = {**demands, record: 1}
        if len(sheaf.sheets_of(record)) == 1 and can_meet(sheaf, end, one, breadth=breadth):
            others = sum(demands[other] for other in demands if other != record)
            own = cap(sheaf.sharpness_of(sheaf.sheets_of(record)[0]), end, breadth=breadth)
            self.assertEqual(share, min(own, len(sheaf) - others))

    def test_against_search(self):
        for sheaf in small_sheaves(4, 3):
            for end in possible_ends(sheaf, breadth=2):
                told = [dict(shares) for found, shares in finals(sheaf.rows(), 2) if found == end]
                for record in sheaf.records():
                    wanted = max(shares.get(record, 0) for shares in told)
                    self.assertEqual(greatest_share(sheaf, end, {}, record, breadth=2), wanted)

    def test_known_shares(self):
        self.assertEqual(greatest_share(STAIRS, 0, {}, "c"), 3)
        self.assertEqual(greatest_share(STAIRS, 0, {}, "b"), 0)
        self.assertEqual(greatest_share(STAIRS, 1, {}, "c"), 2)
        self.assertEqual(greatest_share(STAIRS, 1, {"b": 1, "c": 1}, "c"), 2)
        self.assertEqual(greatest_share(STAIRS, 1, {"b": 1, "z": 0}, "a"), 0)
        self.assertEqual(greatest_share(sheaf_of(3), 3, {"a": 1}, "a"), 1)
        wide = sheaf_of(0, 0, 0, 2)
        self.assertEqual(greatest_share(wide, 0, {"a": 1}, "d", breadth=3), 3)
        self.assertEqual(greatest_share(wide, 0, {"a": 1}, "d"), 3)

    def test_errors_in_their_order(self):
        with self.assertRaises(InvalidDemands) as caught:
            greatest_share(STAIRS, 99, {"q": -1, "b": -1}, "q")
        self.assertEqual(caught.exception.record, "b")
        self.unknown("q", greatest_share, STAIRS, 99, {"q": 1, "a": 9}, "q")
        self.unknown("q", greatest_share, STAIRS, 1, {"a": 9}, "q", breadth=2)
        self.impossible(("total", 9), greatest_share, STAIRS, 1, {"a": 9}, "a")
        self.impossible(("record", "a", 0), greatest_share, STAIRS, 1, {"a": 1}, "a")
        self.impossible(("reach", 0), greatest_share, STAIRS, 99, {}, "a")
        self.impossible(("height", 1, 1), greatest_share, STAIRS, 0, {"b": 1}, "c")

    def test_many_sheets(self):
        chance = Random(130)
        for sheaf in some_sheaves(131, 10, span=6):
            rows = complete_log(sheaf, 2, chance)[1]
            shares = shares_of_rows(rows)
            for record in shares:
                demands = {other: shares[other] - 1 for other in shares}
                self.check(sheaf, rows[0][0], demands, record, 2)


class TestBreadthLeftOut(KeepingTest):
    def test_it_is_1(self):
        sheaf = sheaf_of(0, 0, 2, 0, 0)
        # The sheet of 2 reaches 2 sheets at the end 1, for breadth 2 it reaches 3.
        self.assertEqual(kept_ends(sheaf, ["c"]), [0])
        self.assertEqual(kept_ends(sheaf_of(0, 0, 2), ["c"]), [0])
        self.assertEqual(kept_ends(sheaf_of(0, 0, 2), ["c"], breadth=2), [0, 1])
        with self.assertRaises(InvalidDeed):
            kept_floors(sheaf, [], [(2, (0, 1))])
        self.assertEqual(kept_floors(sheaf, [], [(2, (0, 1))], breadth=2), [0, 0])
        flat = sheaf_of(0, 0, 2)
        self.impossible(("reach", 2), most_kept, flat, 1)
        self.assertEqual(most_kept(flat, 1, breadth=2), 1)
        self.impossible(("reach", 2), dearest_kept, flat, 1, {"c": 1})
        self.assertEqual(dearest_kept(flat, 1, {"c": 1}, breadth=2), ["c"])
        self.impossible(("reach", 2), swap_choices, flat, 1, [], "c")
        self.assertEqual(swap_choices(flat, 1, [], "c", breadth=2), (True, []))
        self.assertEqual(greatest_share(sheaf_of(0, 0, 1), 0, {}, "c"), 2)
        self.assertEqual(greatest_share(sheaf_of(0, 0, 1), 0, {}, "c", breadth=2), 3)


class TestOrders(KeepingTest):
    def test_the_order_of_a_kept_list_does_not_matter(self):
        log = some_log(STAIRS, 1, Random(132))[0]
        for kept in permutations(["b", "c"]):
            self.assertEqual(kept_floor(STAIRS, list(kept)), 1)
            self.assertEqual(kept_ends(STAIRS, list(kept)), [1])
            self.assertEqual(
                kept_floors(STAIRS, list(kept), log), kept_floors(STAIRS, ["b", "c"], log)
            )


if __name__ == "__main__":
    unittest.main()
