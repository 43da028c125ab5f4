import unittest
from itertools import combinations, product
from random import Random

from tests.helpers import (
    aside_by_words, cap_by_words, complete_log, finals, letters, reasons_by_words, shares_of_rows,
    sheaf_of, small_record_sheaves, small_sheaves, some_sheaves,
)
from wornsheaf.deeds import replay
from wornsheaf.demands import can_meet, trouble
from wornsheaf.errors import Impossible, InvalidDemands
from wornsheaf.sheaf import Sheaf
from wornsheaf.stages import plan
from wornsheaf.wishes import grant, greatest_within, look_at_short, wish_trouble, worths

STAIRS = sheaf_of(0, 1, 2)
PAIR = Sheaf([(0, "a"), (0, "b"), (1, "c")])
SHORT = ("short", 2, (0,))
LIMITS = [(0, 0), (0, 1), (1, 1), (0, 2), (1, 2), (2, 3), (0, 99)]


def lower(wish):
    return {record: least for record, (least, _) in wish.items()}


def grants(shares, wish):
    return all(least <= shares.get(record, 0) <= most for record, (least, most) in wish.items())


def worths_by_words(sheaf, end, wish, breadth):
    found = {}
    for record in sheaf.records():
        most = min(wish.get(record, (0, 1000))[1], len(sheaf))
        sheets = [k for k in sheaf.sheets_of(record) if sheaf.sharpness_of(k) >= end]
        for index in sorted(sheets, key=lambda k: (-sheaf.sharpness_of(k), k)):
            cap = cap_by_words(sheaf.sharpness_of(index), end, breadth)
            found[index] = min(cap, most)
            most -= found[index]
    return found


def room_by_words(sheaf, end, height):
    return len([row for row in sheaf.rows() if row[0] <= height]) - height - 1 + end


def greatest_by_words(sheaf, end, wish, breadth):
    """Return the greatest worth of all choices, trying each set of sheets."""
    worth = worths_by_words(sheaf, end, wish, breadth)
    aside = set(aside_by_words(sheaf, end, lower(wish), breadth))
    found = []
    for many in range(len(aside), len(worth) + 1):
        for choice in combinations(worth, many):
            if aside <= set(choice) and all(
                len([k for k in choice if sheaf.sharpness_of(k) <= height])
                <= room_by_words(sheaf, end, height) for height in range(end, sheaf.top)
            ):
                found.append(sum(worth[k] for k in choice))
    return max(found)


def cuts_many(sheaf, end, wish, breadth):
    """Return how many items cuts have."""
    worth = worths_by_words(sheaf, end, wish, breadth)
    aside = aside_by_words(sheaf, end, lower(wish), breadth)
    return max([worth[k] for k in worth if k not in aside], default=0)


def total_by_words(sheaf, end, wish, breadth, cuts):
    worth = worths_by_words(sheaf, end, wish, breadth)
    aside = aside_by_words(sheaf, end, lower(wish), breadth)
    total = sum(worth[k] for k in aside)
    for number, cut in enumerate(cuts, start=1):
        sheets = [k for k in worth if k in aside or worth[k] >= number]
        bound = len(sheets)
        if cut is not None:
            sharper = [k for k in sheets if sheaf.sharpness_of(k) > cut]
            bound = room_by_words(sheaf, end, cut) + len(sharper)
        total += bound - len(aside)
    return total


def small_wishes(records):
    """Return wishes for the records, with one, two or all of them named."""
    wishes = [{}]
    for record in records:
        wishes += [{record: limits} for limits in LIMITS]
    for pair in combinations(records, 2):
        wishes += [dict(zip(pair, limits)) for limits in product(LIMITS[:4], repeat=2)]
    wishes.append({record: (0, 1) for record in records})
    return wishes + [{"z": (0, 0)}, {"z": (0, 5), records[0]: (0, 1)}, {"z": (1, 1)}]


class WishTest(unittest.TestCase):
    def impossible(self, reason, ask, *arguments, **more):
        with self.assertRaises(Impossible) as caught:
            ask(*arguments, **more)
        self.assertEqual(caught.exception.reason, reason)


class TestInvalidWishes(WishTest):
    ASKED = {
        "worths": lambda wish: worths(STAIRS, 99, wish),
        "wish_trouble": lambda wish: wish_trouble(STAIRS, 99, wish, breadth=2),
        "greatest_within": lambda wish: greatest_within(STAIRS, 99, wish),
        "grant": lambda wish: grant(STAIRS, 99, wish),
        "grant possible": lambda wish: grant(STAIRS, 1, wish, breadth=3),
        "look_at_short": lambda wish: look_at_short(STAIRS, 99, wish, ("short", 2, (7,))),
        "look_at_short possible": lambda wish: look_at_short(PAIR, 0, wish, SHORT),
    }

    def refused(self, wish, record):
        for name, ask in self.ASKED.items():
            with self.subTest(name, wish=wish), self.assertRaises(InvalidDemands) as caught:
                ask(wish)
            self.assertEqual(caught.exception.record, record)

    def test_negative_least(self):
        self.refused({"a": (-1, 2)}, "a")
        self.refused({"a": (0, 0), "z": (-1, -1)}, "z")
        self.refused({"c": (-1000, 1000), "b": (900, 1000)}, "c")

    def test_most_below_least(self):
        self.refused({"a": (1, 0)}, "a")
        self.refused({"b": (0, -1)}, "b")
        # As they were given: above the number of sheets, too.
        self.refused({"b": (9, 8)}, "b")

    def test_the_first_of_several_in_ascending_order(self):
        self.refused({"c": (-1, 1), "b": (2, 1), "a": (1, 1)}, "b")
        self.refused({"b": (2, 1), "a9": (0, -1), "aa": (-1, 0)}, "a9")
        self.refused({"z": (1, 0), "0": (-1, 5)}, "0")

    def test_limits_above_the_number_of_sheets_are_right(self):
        self.assertEqual(wish_trouble(STAIRS, 1, {"c": (5, 7)}), ("total", 5))
        self.assertEqual(wish_trouble(STAIRS, 1, {"c": (4, 4)}), ("total", 4))
        self.assertIsNone(wish_trouble(STAIRS, 1, {"c": (1, 1000), "b": (0, 4)}))


class TestWorths(WishTest):
    def test_known_worths(self):
        sheaf = Sheaf([(0, "a"), (2, "a"), (1, "b"), (1, "a"), (1, "a"), (-1, "b")])
        # The caps at the end 0 are 1, 4, 2, 2, 2 and 0.
        for most, told in [
            (0, [0, 0, 0, 0]), (1, [0, 1, 0, 0]), (3, [0, 3, 0, 0]), (4, [0, 4, 0, 0]),
            (5, [0, 4, 1, 0]), (6, [0, 4, 2, 0]),
        ]:
            wanted = dict(zip([0, 1, 3, 4], told))
            wanted[2] = 2
            self.assertEqual(worths(sheaf, 0, {"a": (0, most)}), wanted)
        self.assertEqual(worths(sheaf, 1, {"b": (0, 0)}), {1: 2, 2: 0, 3: 1, 4: 1})
        self.assertEqual(worths(sheaf, 3, {"b": (0, 0)}), {})

    def test_most_above_the_number_of_sheets(self):
        sheaf = Sheaf([(4, "a"), (3, "a"), (0, "b")])
        for most in (3, 4, 5, 1000):
            self.assertEqual(worths(sheaf, 0, {"a": (0, most)}), {0: 3, 1: 0, 2: 1})
        self.assertEqual(worths(sheaf, 0, {}), {0: 3, 1: 0, 2: 1})
        self.assertEqual(worths(sheaf, 3, {}), {0: 2, 1: 1})
        self.assertEqual(worths(sheaf, 3, {}, breadth=2), {0: 3, 1: 0})

    def test_unnamed_records_and_lower_limits(self):
        self.assertEqual(worths(STAIRS, 0, {"z": (0, 0)}), {0: 1, 1: 2, 2: 3})
        self.assertEqual(worths(STAIRS, 0, {"a": (1, 2), "c": (1, 2)}), {0: 1, 1: 2, 2: 2})
        self.assertEqual(worths(STAIRS, 0, {"c": (1000, 1000)}), {0: 1, 1: 2, 2: 3})

    def test_against_the_words(self):
        chance = Random(141)
        for sheaf in some_sheaves(142, 60, span=5):
            wish = {record: (0, chance.choice((0, 1, 3, 8, 99))) for record in "acdz"}
            for end in range(sheaf.bottom - 1, sheaf.top + 2):
                for breadth in (1, 4):
                    found = worths(sheaf, end, wish, breadth=breadth)
                    self.assertEqual(found, worths_by_words(sheaf, end, wish, breadth))
                    self.assertTrue(all(worth >= 0 for worth in found.values()))


class TestTroubleOfWishes(WishTest):
    def test_examples(self):
        self.assertEqual(wish_trouble(PAIR, 0, {"c": (0, 1)}), SHORT)
        self.assertEqual(grant(PAIR, 0, {"a": (0, 0)}), {"b": 1, "c": 2})

    def test_the_forms_in_their_order(self):
        self.assertEqual(wish_trouble(PAIR, 0, {"a": (4, 4), "c": (0, 0)}), ("total", 4))
        self.assertEqual(wish_trouble(PAIR, 1, {"a": (1, 1), "c": (0, 0)}), ("reach", 1))
        self.assertEqual(wish_trouble(PAIR, 0, {"b": (2, 2), "c": (0, 0)}), ("record", "b", 1))
        self.assertEqual(wish_trouble(PAIR, 0, {"b": (2, 2), "a": (2, 2)}), ("total", 4))
        both = {"b": (1, 1), "a": (1, 1), "c": (0, 0)}
        self.assertEqual(wish_trouble(PAIR, 0, both), ("height", 0, 0))
        self.assertEqual(wish_trouble(PAIR, 0, {"c": (0, 0)})[:2], ("short", 1))
        self.assertIsNone(wish_trouble(PAIR, 0, {"a": (0, 0)}))

    def test_breadth_left_out_is_1(self):
        flat = sheaf_of(0, 0, 2)
        self.assertEqual(worths(flat, 1, {}), {2: 2})
        self.assertEqual(worths(flat, 1, {}, breadth=2), {2: 3})
        self.assertEqual(wish_trouble(flat, 1, {}), ("reach", 2))
        self.assertIsNone(wish_trouble(flat, 1, {}, breadth=2))
        self.impossible(("reach", 2), greatest_within, flat, 1, {})
        self.assertEqual(greatest_within(flat, 1, {}, breadth=2), 3)
        self.impossible(("reach", 2), grant, flat, 1, {})
        self.assertEqual(grant(flat, 1, {}, breadth=2), {"c": 3})
        self.assertEqual(greatest_within(PAIR, 0, {"c": (0, 2)}), 3)
        self.assertEqual(greatest_within(PAIR, 0, {"a": (0, 0), "b": (0, 0)}), 2)
        self.assertEqual(wish_trouble(PAIR, 0, {"a": (0, 0), "b": (0, 0)})[:2], ("short", 2))
        self.assertIsNone(wish_trouble(PAIR, 0, {"a": (0, 0), "b": (0, 0)}, breadth=2))
        told = ("short", 2, (None, None))
        self.assertIs(look_at_short(PAIR, 0, {"a": (0, 0), "b": (0, 0)}, told), True)

    def test_the_breadth_counts_for_what_is_set_aside(self):
        # For breadth 2 one of the two sheets of b is set aside, for breadth 1 both.
        sheaf = Sheaf([(0, "a"), (0, "a"), (0, "a"), (1, "b"), (1, "b")])
        wish = {"b": (3, 4), "a": (0, 0)}
        self.assertEqual(wish_trouble(sheaf, 0, wish), ("short", 4, ()))
        self.assertEqual(wish_trouble(sheaf, 0, wish, breadth=2), ("short", 4, (None,)))
        for breadth in (1, 2):
            reason = wish_trouble(sheaf, 0, wish, breadth=breadth)
            self.assertIs(look_at_short(sheaf, 0, wish, reason, breadth=breadth), True)
            self.assertIs(look_at_short(sheaf, 0, wish, reason, breadth=3 - breadth), False)

    def test_no_cuts(self):
        # All sheets are set aside, or have the worth 0.
        self.assertEqual(wish_trouble(sheaf_of(2), 2, {"a": (0, 0)}), ("short", 0, ()))
        level = sheaf_of(2, 2)
        self.assertEqual(wish_trouble(level, 2, {"a": (0, 0), "b": (0, 0)}), ("short", 0, ()))
        told = wish_trouble(level, 2, {"a": (1, 1), "b": (0, 0)})
        self.assertEqual(told, ("short", 1, ()))
        twice = Sheaf([(2, "a"), (2, "a")])
        self.assertEqual(wish_trouble(twice, 2, {"a": (0, 1)}), ("short", 1, (None,)))

    def check(self, sheaf, end, wish, breadth, there):
        """Check every answer about one wish, of which it is known if it can be granted."""
        reason = wish_trouble(sheaf, end, wish, breadth=breadth)
        self.assertEqual(reason is None, there, (sheaf.rows(), end, wish, breadth))
        lower_reasons = reasons_by_words(sheaf, end, lower(wish), breadth)
        if lower_reasons:
            self.assertEqual(reason, lower_reasons[0])
            ask = {"breadth": breadth}
            self.impossible(reason, greatest_within, sheaf, end, wish, **ask)
            self.impossible(reason, grant, sheaf, end, wish, **ask)
            self.assertIs(look_at_short(sheaf, end, wish, SHORT, breadth=breadth), False)
            return
        greatest = greatest_by_words(sheaf, end, wish, breadth)
        self.assertEqual(greatest_within(sheaf, end, wish, breadth=breadth), greatest)
        self.assertEqual(there, greatest >= len(sheaf))
        if there:
            self.check_shares(sheaf, end, wish, breadth)
        else:
            self.check_short(sheaf, end, wish, breadth, reason, greatest)

    def check_shares(self, sheaf, end, wish, breadth):
        shares = grant(sheaf, end, wish, breadth=breadth)
        self.assertEqual(sum(shares.values()), len(sheaf))
        self.assertTrue(all(number >= 1 for number in shares.values()))
        self.assertTrue(grants(shares, wish))
        self.assertTrue(can_meet(sheaf, end, shares, breadth=breadth))
        left = replay(sheaf, plan(sheaf, end, shares, breadth=breadth), breadth=breadth)
        self.assertEqual((left.top, left.bottom, left.shares()), (end, end, shares))

    def check_short(self, sheaf, end, wish, breadth, reason, greatest):
        form, amount, cuts = reason
        self.assertEqual((form, amount), ("short", greatest))
        self.assertIsInstance(cuts, tuple)
        self.assertEqual(len(cuts), cuts_many(sheaf, end, wish, breadth))
        self.assertTrue(all(cut is None or end <= cut < sheaf.top for cut in cuts))
        self.assertEqual(total_by_words(sheaf, end, wish, breadth, cuts), greatest)
        self.assertIs(look_at_short(sheaf, end, wish, reason, breadth=breadth), True)
        self.impossible(("short", greatest, cuts), grant, sheaf, end, wish, breadth=breadth)

    def test_against_search(self):
        for breadth, sheets, most_sharpness in [(1, 4, 3), (2, 3, 3), (3, 4, 1)]:
            for sheaf in small_sheaves(sheets, most_sharpness):
                if len(sheaf) == sheets:
                    self.check_by_search(sheaf, breadth)

    def test_repeated_records_against_search(self):
        for breadth, most_sharpness in [(1, 2), (2, 1)]:
            for sheaf in small_record_sheaves(4, most_sharpness):
                if sheaf.records() == ["a", "b"] and sheaf.record_of(0) == "a":
                    self.check_by_search(sheaf, breadth)

    def check_by_search(self, sheaf, breadth):
        told = finals(sheaf.rows(), breadth)
        for end in range(sheaf.bottom - 1, sheaf.top + 2):
            shares = [dict(found) for where, found in told if where == end]
            for wish in small_wishes(sheaf.records()):
                there = any(grants(found, wish) for found in shares)
                self.check(sheaf, end, wish, breadth, there)

    def test_many_sheets(self):
        chance = Random(143)
        for sheaf in some_sheaves(144, 40, span=6):
            for breadth in (1, 3):
                rows = complete_log(sheaf, breadth, chance)[1]
                shares = shares_of_rows(rows)
                wish = {
                    record: (shares.get(record, 0) - (record in shares), shares.get(record, 0))
                    for record in "abcde"
                }
                self.assertIsNone(wish_trouble(sheaf, rows[0][0], wish, breadth=breadth))
                self.check_shares(sheaf, rows[0][0], wish, breadth)
                wish["a"] = (0, shares.get("a", 0) // 3)
                for record in "bc":
                    wish[record] = (wish[record][0], len(sheaf))
                self.check_grant_or_short(sheaf, rows[0][0], wish, breadth)

    def test_forty_different_records(self):
        forms = set()
        for told in [list(range(40)), [0] * 20 + list(range(20)), [0] * 38 + [3, 6]]:
            sheaf = sheaf_of(*told)
            ends = range(trouble_free(sheaf, 2)[0], sheaf.top + 1)
            for end in ends:
                for most in (1, 2, 5, 20):
                    wish = {record: (0, most) for record in letters(40)[5:]}
                    forms.add(self.check_grant_or_short(sheaf, end, wish, 2))
        self.assertEqual(forms, {None, "short", "reach"})

    def check_grant_or_short(self, sheaf, end, wish, breadth):
        """Check the answer by itself, where a search would be too long."""
        reason = wish_trouble(sheaf, end, wish, breadth=breadth)
        if reason is None:
            self.check_shares(sheaf, end, wish, breadth)
            return None
        first = trouble(sheaf, end, lower(wish), breadth=breadth)
        if first is None:
            self.assertLess(reason[1], len(sheaf))
            greatest = greatest_within(sheaf, end, wish, breadth=breadth)
            self.check_short(sheaf, end, wish, breadth, reason, greatest)
        else:
            self.assertEqual(reason, first)
        return reason[0]


def trouble_free(sheaf, breadth):
    return [end for end in range(sheaf.bottom, sheaf.top + 1)
            if not reasons_by_words(sheaf, end, {}, breadth)]


class TestLookAtShort(WishTest):
    def look(self, wanted, sheaf, end, wish, reason, breadth=1):
        self.assertIs(look_at_short(sheaf, end, wish, reason, breadth=breadth), wanted)

    def test_amounts(self):
        wish = {"c": (0, 1)}
        self.look(True, PAIR, 0, wish, ("short", 2, (0,)))
        self.look(False, PAIR, 0, wish, ("short", 1, (0,)))
        self.look(False, PAIR, 0, wish, ("short", 3, (0,)))
        # Here the total is the number of sheets, and shows nothing.
        self.look(False, PAIR, 0, wish, ("short", 3, (None,)))
        self.look(False, PAIR, 0, wish, ("short", 2, (None,)))

    def test_forms_of_cuts(self):
        wish = {"c": (0, 1)}
        for cuts in ((), (0, 0), (0, None), (-1,), (1,), (2,), (1000,), (-1000,)):
            for amount in range(-2, 5):
                self.look(False, PAIR, 0, wish, ("short", amount, cuts))

    def test_lower_limits_that_cannot_be_met(self):
        level = sheaf_of(2, 2)
        self.look(True, level, 2, {"a": (1, 1), "b": (0, 0)}, ("short", 1, ()))
        self.look(False, level, 2, {"a": (2, 2), "b": (0, 0)}, ("short", 1, ()))
        self.look(False, level, 3, {"a": (0, 0), "b": (0, 0)}, ("short", 0, ()))
        self.look(False, level, 1, {"a": (0, 0), "b": (0, 0)}, ("short", 0, ()))

    def test_a_wish_that_can_be_granted(self):
        for cuts in ((), (0,), (None,), (0, 0), (None, None), (0, None)):
            for amount in (0, 1, 2, 3):
                self.look(False, PAIR, 0, {}, ("short", amount, cuts))

    def test_breadth(self):
        sheaf = sheaf_of(0, 0, 0, 2)
        wish = {"d": (0, 3)}
        self.assertIsNone(wish_trouble(sheaf, 0, wish))
        reason = wish_trouble(sheaf, 1, wish, breadth=3)
        self.assertEqual(reason, ("short", 3, (None, None, None)))
        self.look(True, sheaf, 1, wish, reason, breadth=3)
        self.look(False, sheaf, 1, wish, reason, breadth=2)
        self.look(False, sheaf, 1, wish, reason)

    def test_all_cuts(self):
        totals = 0
        for sheaf in list(small_sheaves(4, 2)) + list(small_record_sheaves(4, 1)):
            for wish in [{"a": (0, 1), "b": (0, 1)}, {"d": (0, 2), "a": (0, 0)}, {"a": (1, 2)}]:
                for end in range(sheaf.bottom, sheaf.top + 1):
                    if reasons_by_words(sheaf, end, lower(wish), 1):
                        continue
                    greatest = greatest_by_words(sheaf, end, wish, 1)
                    told = []
                    items = [None, *range(end, sheaf.top)]
                    many = cuts_many(sheaf, end, wish, 1)
                    for cuts in product(items, repeat=many):
                        total = total_by_words(sheaf, end, wish, 1, cuts)
                        short = total < len(sheaf)
                        self.look(short, sheaf, end, wish, ("short", total, cuts))
                        self.look(False, sheaf, end, wish, ("short", total - 1, cuts))
                        self.look(False, sheaf, end, wish, ("short", total + 1, cuts))
                        told.append(total)
                    self.assertEqual(min(told), greatest)
                    totals += max(told) > greatest and greatest < len(sheaf)
        self.assertGreater(totals, 10)


if __name__ == "__main__":
    unittest.main()
