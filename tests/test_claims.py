import unittest
from random import Random

from tests.helpers import (
    all_demands, cap_by_words, error_of, reasons_by_words, sheaf_of, small_record_sheaves,
    small_sheaves, some_sheaves,
)
from wornsheaf.claims import (
    Claim, claim_demands, claim_rounds, claim_shortest, claim_wish, look,
)
from wornsheaf.deeds import replay
from wornsheaf.ends import high_end, low_end, possible_ends
from wornsheaf.errors import Impossible, InvalidDemands
from wornsheaf.lookers import look_at_plan
from wornsheaf.rounds import fewest_rounds, play_rounds
from wornsheaf.sheaf import Sheaf
from wornsheaf.shortest import shortest_length
from wornsheaf.wishes import look_at_short, wish_trouble

STAIRS = sheaf_of(0, 1, 2)
# Two sheets that are to be lifted by one, which the wish holds back.
HELD = sheaf_of(0, 0, 1)


class ClaimTest(unittest.TestCase):
    def look(self, wanted, sheaf, kind, end, subject, paper, breadth=1):
        claim = Claim(kind, end, subject, paper)
        self.assertIs(look(sheaf, claim, breadth=breadth), wanted, (kind, end, subject, paper))


class TestClaim(unittest.TestCase):
    def test_what_it_was_made_with(self):
        claim = Claim("meets", 3, {"a": 1}, [(1, (0,))])
        self.assertEqual((claim.kind, claim.end), ("meets", 3))
        self.assertEqual((claim.subject(), claim.paper()), ({"a": 1}, [(1, (0,))]))
        claim = Claim("rounds", -2, 7, [[(1, (0,))], []])
        self.assertEqual((claim.kind, claim.end), ("rounds", -2))
        self.assertEqual((claim.subject(), claim.paper()), (7, [[(1, (0,))], []]))

    def test_making_checks_nothing(self):
        Claim("meets", 3, {"a": -1}, [(9, ())])
        Claim("grants", 3, {"a": (2, 1)}, {"A": -4})
        Claim("rounds", 3, -4, [[(9, ())]])

    def test_what_it_was_made_with_is_copied(self):
        demands = {"a": 1}
        log = [(1, (0,))]
        claim = Claim("meets", 3, demands, log)
        demands["b"] = 2
        log.append((2, (0,)))
        self.assertEqual((claim.subject(), claim.paper()), ({"a": 1}, [(1, (0,))]))
        rounds = [[(1, (0,))], []]
        claim = Claim("rounds", 3, 2, rounds)
        rounds[0].append("x")
        rounds[1].append("x")
        rounds.append("x")
        self.assertEqual(claim.paper(), [[(1, (0,))], []])
        shares = {"a": 1}
        claim = Claim("grants", 3, {"a": (0, 1)}, shares)
        shares["a"] = 9
        self.assertEqual(claim.paper(), {"a": 1})

    def test_what_its_methods_return_is_new(self):
        claim = Claim("rounds", 3, 2, [[(1, (0,))], []])
        claim.paper()[0].append("x")
        claim.paper()[1].append("x")
        claim.paper().clear()
        self.assertEqual(claim.paper(), [[(1, (0,))], []])
        claim = Claim("grants", 3, {"a": (0, 1)}, {"a": 1})
        claim.subject()["a"] = "x"
        claim.paper()["b"] = "x"
        self.assertEqual((claim.subject(), claim.paper()), ({"a": (0, 1)}, {"a": 1}))


    def test_other_kinds_say_nothing_that_is_true(self):
        self.assertIs(look(STAIRS, Claim("", 0, 0, [])), False)
        self.assertIs(look(STAIRS, Claim("round", 0, 0, [])), False)


class TestLookAtMeets(ClaimTest):
    def test_the_paper(self):
        log = [(2, (0,))]
        self.look(True, STAIRS, "meets", 1, {"c": 2, "b": 1, "z": 0}, log)
        for paper in (
            [], log + [(2, (0,))], [(2, (1,))], [(0, (2,))], [(2, ())], [(2, (0, 1))], [(3, (0,))],
            [(2, (-3,))],
        ):
            self.look(False, STAIRS, "meets", 1, {"c": 2, "b": 1, "z": 0}, paper)

    def test_the_end_and_the_subject(self):
        log = [(2, (0,))]
        for end in (-900, 0, 2, 3, 900):
            self.look(False, STAIRS, "meets", end, {}, log)
        for subject in ({"c": 3}, {"b": 2}, {"a": 1}, {"z": 1}, {"c": 2, "b": 2}):
            self.look(False, STAIRS, "meets", 1, subject, log)
        self.look(True, STAIRS, "meets", 1, {}, log)
        self.look(False, STAIRS, "meets", 2, {}, [])
        self.look(True, sheaf_of(2, 2), "meets", 2, {"a": 1}, [])

    def test_breadth(self):
        self.look(False, HELD, "meets", 0, {"c": 3}, [(2, (0, 1))])
        self.look(True, HELD, "meets", 0, {"c": 3}, [(2, (0, 1))], 2)
        self.assertIs(look(HELD, Claim("meets", 0, {"c": 3}, [(2, (0, 1))])), False)


class TestLookAtFails(ClaimTest):
    def test_each_form(self):
        self.look(True, STAIRS, "fails", 0, {"a": 4}, ("total", 4))
        self.look(False, STAIRS, "fails", 0, {"a": 4}, ("total", 5))
        self.look(False, STAIRS, "fails", 0, {"a": 3}, ("total", 3))
        self.look(True, STAIRS, "fails", 2, {}, ("reach", 1))
        self.look(False, STAIRS, "fails", 2, {}, ("reach", 2))
        self.look(False, STAIRS, "fails", 1, {}, ("reach", 3))
        self.look(True, STAIRS, "fails", 1, {"a": 1}, ("record", "a", 0))
        self.look(False, STAIRS, "fails", 1, {"a": 1}, ("record", "b", 0))
        self.look(False, STAIRS, "fails", 1, {"b": 1}, ("record", "a", 0))
        self.look(True, STAIRS, "fails", 0, {"b": 1}, ("height", 1, 1))
        self.look(False, STAIRS, "fails", 0, {"b": 1}, ("height", 0, 1))
        self.look(False, STAIRS, "fails", 0, {"b": 1}, ("height", 1, 0))
        self.look(False, STAIRS, "fails", 1, {"b": 1}, ("height", 1, 1))

    def test_not_the_first_reason(self):
        demands = {"a": 2, "b": 9}
        self.look(True, STAIRS, "fails", -1, demands, ("record", "b", 4))
        self.look(True, STAIRS, "fails", -1, demands, ("height", -1, 0))
        self.look(True, STAIRS, "fails", -1, demands, ("total", 11))

    def test_ends_that_are_not_possible(self):
        self.look(True, STAIRS, "fails", 9, {}, ("reach", 0))
        self.look(False, STAIRS, "fails", 9, {}, ("reach", 1))
        self.look(True, STAIRS, "fails", -2, {}, ("height", -2, 0))
        self.look(False, STAIRS, "fails", -2, {}, ("reach", 0))

    def test_against_the_words(self):
        for sheaf in small_record_sheaves(3, 2):
            for demands in all_demands("ab", 3):
                for end in range(-1, 4):
                    for breadth in (1, 2):
                        held = reasons_by_words(sheaf, end, demands, breadth)
                        for reason in held:
                            self.look(True, sheaf, "fails", end, demands, reason, breadth)
                        for form in (("total",), ("reach",), ("record", "a"), ("height", 0)):
                            for amount in (0, 2):
                                reason = (*form, amount)
                                wanted = reason in held
                                self.look(wanted, sheaf, "fails", end, demands, reason, breadth)


class TestLookAtGrants(ClaimTest):
    def test_the_paper(self):
        wish = {"c": (1, 2), "z": (0, 9)}
        self.look(True, STAIRS, "grants", 1, wish, {"c": 2, "b": 1})
        for shares in (
            {"c": 2}, {"c": 2, "b": 2}, {"c": 3}, {"c": 2, "b": 0}, {"c": 2, "b": 1, "z": 0},
            {"c": 2, "b": 1, "a": 1, "z": -1}, {"c": 4, "b": -1}, {"c": 2, "a": 1},
            {"c": 2, "z": 1}, {}, {"b": 3}, {"c": 1, "b": 2}, {"c": 0, "b": 3},
        ):
            self.look(False, STAIRS, "grants", 1, wish, shares)

    def test_limits(self):
        shares = {"c": 2, "b": 1}
        for wish in ({}, {"a": (0, 0)}, {"b": (1, 1), "c": (2, 2)}, {"c": (0, 1000)}, {"c": (2, 3)}):
            self.look(True, STAIRS, "grants", 1, wish, shares)
        for wish in ({"b": (0, 0)}, {"c": (0, 1)}, {"c": (3, 3)}, {"b": (2, 2)}, {"a": (1, 1)}, {"z": (1, 2)}):
            self.look(False, STAIRS, "grants", 1, wish, shares)

    def test_the_end_and_the_breadth(self):
        for end in (0, 2, -1, 900, -900):
            self.look(False, STAIRS, "grants", end, {}, {"c": 2, "b": 1})
        self.look(True, STAIRS, "grants", 0, {}, {"c": 3})
        self.look(False, HELD, "grants", 0, {}, {"c": 3})
        self.look(True, HELD, "grants", 0, {}, {"c": 3}, 2)
        self.look(False, HELD, "grants", 1, {}, {"c": 3}, 2)
        self.look(True, HELD, "grants", 0, {}, {"c": 2, "a": 1})
        self.look(False, HELD, "grants", 0, {}, {"c": 1, "a": 1, "b": 1})


class TestLookAtDenies(ClaimTest):
    def test_reasons_for_the_lower_limits(self):
        self.look(True, STAIRS, "denies", 0, {"b": (1, 3)}, ("height", 1, 1))
        self.look(False, STAIRS, "denies", 0, {"b": (0, 3)}, ("height", 1, 1))
        self.look(False, STAIRS, "denies", 0, {"b": (1, 3)}, ("height", 1, 2))
        self.look(True, STAIRS, "denies", 0, {"b": (3, 9)}, ("record", "b", 2))
        self.look(False, STAIRS, "denies", 0, {"b": (2, 9)}, ("record", "b", 2))
        self.look(True, STAIRS, "denies", 0, {"b": (2, 9), "c": (2, 2)}, ("total", 4))
        self.look(False, STAIRS, "denies", 0, {"b": (0, 2), "c": (0, 2)}, ("total", 4))
        self.look(True, STAIRS, "denies", 2, {}, ("reach", 1))
        self.look(True, STAIRS, "denies", -5, {}, ("height", -4, 0))
        self.look(False, STAIRS, "denies", 1, {}, ("reach", 3))

    def test_short(self):
        wish = {"c": (0, 1)}
        self.look(True, HELD, "denies", 0, wish, ("short", 2, (0,)))
        for reason in (
            ("short", 1, (0,)), ("short", 3, (0,)), ("short", 2, ()), ("short", 2, (0, 0)),
            ("short", 3, (None,)), ("short", 2, (None,)), ("short", 2, (1,)), ("short", 2, (-1,)),
        ):
            self.look(False, HELD, "denies", 0, wish, reason)
        self.look(False, HELD, "denies", 0, {"c": (0, 2)}, ("short", 2, (0,)))
        self.look(False, HELD, "denies", 0, {"c": (0, 1), "a": (1, 1), "b": (1, 1)}, ("short", 2, (0,)))
        self.look(False, HELD, "denies", 1, wish, ("short", 2, (0,)))
        self.look(False, STAIRS, "denies", 0, {}, ("short", 2, (0,)))

    def test_an_amount_above_the_greatest_worth(self):
        sheaf = sheaf_of(0, 0, 0, 2)
        wish = {"d": (0, 1), "c": (0, 1)}
        reason = wish_trouble(sheaf, 0, wish)
        self.assertEqual(reason, ("short", 2, (1,)))
        self.look(True, sheaf, "denies", 0, wish, reason)
        self.assertTrue(look_at_short(sheaf, 0, wish, ("short", 3, (0,))))
        self.look(True, sheaf, "denies", 0, wish, ("short", 3, (0,)))
        self.look(False, sheaf, "denies", 0, wish, ("short", 4, (None,)))

    def test_breadth(self):
        self.look(True, HELD, "denies", 0, {"c": (4, 9)}, ("record", "c", 3), 2)
        self.look(False, HELD, "denies", 0, {"c": (4, 9)}, ("record", "c", 2), 2)
        wish = {"a": (0, 0), "b": (0, 0)}
        self.assertEqual(wish_trouble(HELD, 0, wish), ("short", 2, (None, None)))
        self.look(True, HELD, "denies", 0, wish, ("short", 2, (None, None)))
        self.look(False, HELD, "denies", 0, wish, ("short", 2, (None, None)), 2)


class TestLookAtShortest(ClaimTest):
    def test_each_part(self):
        self.look(True, STAIRS, "shortest", 1, 1, [(2, (0,))])
        self.look(False, STAIRS, "shortest", 1, 2, [(2, (0,))])
        self.look(False, STAIRS, "shortest", 1, 0, [(2, (0,))])
        for end in (0, 2, -900, 900):
            self.look(False, STAIRS, "shortest", end, 1, [(2, (0,))])
        for paper in ([], [(2, (1,))], [(0, (2,))], [(2, ())], [(2, (0,)), (2, (0,))], [(9, (0,))]):
            self.look(False, STAIRS, "shortest", 1, 1, paper)
            self.look(False, STAIRS, "shortest", 1, len(paper), paper)

    def test_a_log_that_is_not_the_shortest(self):
        longer = [(1, (0,)), (2, (1,)), (2, (0,)), (1, (0,))]
        self.assertTrue(look_at_plan(STAIRS, 0, {}, longer))
        self.assertEqual(shortest_length(STAIRS, 0), 3)
        self.look(False, STAIRS, "shortest", 0, 4, longer)
        self.look(False, STAIRS, "shortest", 0, 3, longer)
        self.look(True, STAIRS, "shortest", 0, 3, [(2, (1,)), (2, (0,)), (1, (0,))])

    def test_ends_that_are_not_possible(self):
        self.look(False, STAIRS, "shortest", 2, 0, [])
        self.look(False, STAIRS, "shortest", -1, 0, [])
        self.look(True, sheaf_of(4, 4), "shortest", 4, 0, [])
        self.look(False, sheaf_of(4, 4), "shortest", 3, 0, [])
        self.look(False, sheaf_of(4, 4), "shortest", 5, 0, [])

    def test_breadth(self):
        sheaf = sheaf_of(0, 0, 0, 2)
        self.look(True, sheaf, "shortest", 1, 1, [(3, (0, 1, 2))], 3)
        self.look(False, sheaf, "shortest", 1, 1, [(3, (0, 1, 2))], 2)
        # One target each time is enough, but it takes more deeds.
        wide = sheaf_of(0, 0, 1)
        self.look(True, wide, "shortest", 0, 1, [(2, (0,))], 2)


class TestLookAtRounds(ClaimTest):
    def test_each_part(self):
        sheaf = sheaf_of(0, 0, 0, 4)
        rounds = [[(3, (0,))], [(3, (1,)), (0, (2,))]]
        self.look(True, sheaf, "rounds", 2, 2, rounds)
        self.look(True, sheaf, "rounds", 1, 2, rounds)
        self.look(False, sheaf, "rounds", 2, 1, rounds)
        self.look(False, sheaf, "rounds", 2, 3, rounds)
        for end in (3, 4, 900, 0, -900):
            self.look(False, sheaf, "rounds", end, 2, rounds)
        for paper in (
            [], rounds[:1], rounds + [[]], rounds[::-1], [rounds[0], [(3, (1,)), (3, (2,))]],
            [rounds[0], [(3, (1,)), (0, (1,))]], [[(3, (0,)), (0, (1,))], rounds[1]],
            [rounds[0], [(3, (1, 2))]], [rounds[0], [(3, (1,)), (0, ())]],
            [rounds[0], [(3, (1,)), (0, (4,))]],
        ):
            self.look(False, sheaf, "rounds", 2, 2, paper)
            self.look(False, sheaf, "rounds", 2, len(paper), paper)

    def test_breadth_left_out_is_1(self):
        for claim in (
            Claim("meets", 0, {"c": 2}, [(2, (0,))]), Claim("fails", 0, {"c": 3}, ("record", "c", 2)),
            Claim("grants", 0, {}, {"c": 2, "b": 1}), Claim("denies", 0, {"c": (3, 3)}, ("record", "c", 2)),
            Claim("shortest", 0, 1, [(2, (0,))]), Claim("rounds", 1, 0, []),
        ):
            sheaf = sheaf_of(1, 1) if claim.kind == "rounds" else HELD
            self.assertIs(look(sheaf, claim), True)
        self.assertIs(look(HELD, Claim("fails", 0, {"c": 3}, ("record", "c", 2)), breadth=2), False)

    def test_rounds_that_are_not_the_fewest(self):
        sheaf = sheaf_of(0, 0, 0, 4)
        rounds = [[(3, (0,))], [], [(3, (1,)), (0, (2,))]]
        self.assertGreaterEqual(play_rounds(sheaf, rounds).bottom, 2)
        self.look(False, sheaf, "rounds", 2, 3, rounds)
        self.look(False, sheaf, "rounds", 0, 1, [[]])
        self.look(True, sheaf, "rounds", 0, 0, [])

    def test_ends_above_the_high_end(self):
        for end in (2, 3, 900):
            self.look(False, STAIRS, "rounds", end, 0, [])
            self.look(False, STAIRS, "rounds", end, 1, [[(2, (0,))]])
        self.look(True, STAIRS, "rounds", 1, 1, [[(2, (0,))]])

    def test_ends_below_the_bottom(self):
        self.look(True, STAIRS, "rounds", -900, 0, [])
        self.look(False, STAIRS, "rounds", -900, 1, [[(2, (0,))]])

    def test_breadth(self):
        sheaf = sheaf_of(0, 0, 0, 2)
        self.look(True, sheaf, "rounds", 1, 1, [[(3, (0, 1, 2))]], 3)
        self.look(False, sheaf, "rounds", 1, 1, [[(3, (0, 1, 2))]], 2)
        self.look(False, sheaf, "rounds", 1, 1, [[(3, (0, 1, 2))]])


class TestRefusedSubjects(unittest.TestCase):
    def test_demands(self):
        bad = {"c": -1, "b": -2, "a": 1}
        for kind, paper in [
            ("meets", [(2, (0,))]), ("meets", [(9, ())]), ("fails", ("reach", 3)),
            ("fails", ("total", 9)), ("fails", ("record", "b", 0)), ("fails", ("height", 0, 0)),
        ]:
            for end in (1, 90):
                error = error_of(InvalidDemands, look, STAIRS, Claim(kind, end, bad, paper))
                self.assertEqual(error.record, "b")

    def test_wishes(self):
        for kind, paper in [
            ("grants", {"c": 2, "b": 1}), ("grants", {"c": -2}), ("grants", {}),
            ("denies", ("reach", 3)), ("denies", ("total", 9)), ("denies", ("record", "b", 0)),
            ("denies", ("height", 0, 0)), ("denies", ("short", 2, (0,))),
        ]:
            for bad in ({"c": (-1, 4), "b": (1, 0)}, {"d": (-1, -1), "b": (-1, 3), "a": (0, 0)}):
                for end in (1, 90):
                    error = error_of(InvalidDemands, look, STAIRS, Claim(kind, end, bad, paper))
                    self.assertEqual(error.record, "b")


class TestMakingClaims(unittest.TestCase):
    def check(self, sheaf, claim, kind, end, breadth):
        self.assertEqual((claim.kind, claim.end), (kind, end))
        self.assertIs(look(sheaf, claim, breadth=breadth), True)

    def sheaves(self):
        return list(small_sheaves(3, 3)) + list(some_sheaves(281, 15, span=6))

    def test_example(self):
        sheaf = Sheaf([(0, "a"), (1, "b"), (2, "c")])
        self.assertEqual(claim_demands(sheaf, 0, {"b": 1}).kind, "fails")

    def test_demands(self):
        kinds = {"meets": 0, "fails": 0}
        for sheaf in self.sheaves():
            for breadth in (1, 3):
                low, high = low_end(sheaf), high_end(sheaf, breadth=breadth)
                for end in {low - 1, low, high, high + 1}:
                    for demands in ({}, {"a": 1, "z": 0}, {"b": 2}, {"a": 1, "b": 1, "c": 1}, {"a": 50}):
                        claim = claim_demands(sheaf, end, demands, breadth=breadth)
                        reasons = reasons_by_words(sheaf, end, demands, breadth)
                        kind = "fails" if reasons else "meets"
                        kinds[kind] += 1
                        self.check(sheaf, claim, kind, end, breadth)
                        self.assertEqual(claim.subject(), demands)
                        if reasons:
                            self.assertEqual(claim.paper(), reasons[0])
        self.assertGreater(min(kinds.values()), 50)

    def test_wishes(self):
        kinds = {"grants": 0, "denies": 0}
        shorts = 0
        for sheaf in self.sheaves():
            for breadth in (1, 3):
                for end in possible_ends(sheaf, breadth=breadth)[:2] + [sheaf.top + 1]:
                    for wish in (
                        {}, {"a": (0, 0)}, {"a": (1, 1), "b": (0, 1)}, {"c": (0, 0), "b": (0, 1)},
                        {"z": (0, 3), "a": (0, 900)}, {"a": (40, 50)},
                    ):
                        claim = claim_wish(sheaf, end, wish, breadth=breadth)
                        reason = wish_trouble(sheaf, end, wish, breadth=breadth)
                        kind = "grants" if reason is None else "denies"
                        kinds[kind] += 1
                        self.check(sheaf, claim, kind, end, breadth)
                        self.assertEqual(claim.subject(), wish)
                        if reason is not None:
                            self.assertEqual(claim.paper(), reason)
                            shorts += reason[0] == "short"
        self.assertGreater(min(kinds.values()), 50)
        self.assertGreater(shorts, 10)

    def test_shortest(self):
        for sheaf in self.sheaves():
            for breadth in (1, 3):
                ends = possible_ends(sheaf, breadth=breadth)
                for end in ends:
                    claim = claim_shortest(sheaf, end, breadth=breadth)
                    self.check(sheaf, claim, "shortest", end, breadth)
                    length = shortest_length(sheaf, end, breadth=breadth)
                    self.assertEqual(claim.subject(), length)
                    self.assertEqual(len(claim.paper()), length)
                for end in (ends[0] - 1, ends[-1] + 1):
                    error = error_of(Impossible, claim_shortest, sheaf, end, breadth=breadth)
                    self.assertEqual(error.reason, reasons_by_words(sheaf, end, {}, breadth)[0])

    def test_rounds(self):
        for sheaf in self.sheaves():
            for breadth in (1, 3):
                high = high_end(sheaf, breadth=breadth)
                for end in (high, high - 1, sheaf.bottom - 1):
                    claim = claim_rounds(sheaf, end, breadth=breadth)
                    self.check(sheaf, claim, "rounds", end, breadth)
                    self.assertEqual(claim.subject(), fewest_rounds(sheaf, end, breadth=breadth))
                    self.assertEqual(len(claim.paper()), claim.subject())
                amount = sum(cap_by_words(s, high + 1, breadth) for s, _ in sheaf.rows())
                error = error_of(Impossible, claim_rounds, sheaf, high + 1, breadth=breadth)
                self.assertEqual(error.reason, ("reach", amount))

    def test_breadth_left_out_is_1(self):
        wide = sheaf_of(0, 0, 0, 2)
        self.assertEqual(claim_demands(wide, 1, {}).paper(), ("reach", 2))
        self.assertEqual(claim_demands(wide, 1, {}, breadth=3).kind, "meets")
        self.assertEqual(claim_wish(wide, 1, {}).paper(), ("reach", 2))
        self.assertEqual(claim_wish(wide, 1, {}, breadth=3).kind, "grants")
        self.assertEqual(error_of(Impossible, claim_shortest, wide, 1).reason, ("reach", 2))
        self.assertEqual(error_of(Impossible, claim_rounds, wide, 1).reason, ("reach", 2))
        self.assertEqual(claim_shortest(wide, 1, breadth=3).subject(), 1)
        self.assertEqual(claim_rounds(wide, 1, breadth=3).subject(), 1)

    def test_refused_demands(self):
        bad = {"c": -1, "b": -2, "a": 1}
        for end in (1, 90):
            self.assertEqual(error_of(InvalidDemands, claim_demands, STAIRS, end, bad).record, "b")
            wish = {"c": (-1, 0), "b": (4, 3), "a": (0, 0)}
            self.assertEqual(error_of(InvalidDemands, claim_wish, STAIRS, end, wish).record, "b")

    def test_the_subject_is_copied(self):
        demands = {"c": 2, "z": 0}
        claim = claim_demands(STAIRS, 1, demands)
        demands["c"] = 9
        self.assertEqual(claim.subject(), {"c": 2, "z": 0})
        wish = {"c": (0, 2)}
        claim = claim_wish(STAIRS, 1, wish)
        wish["c"] = (0, 0)
        self.assertEqual(claim.subject(), {"c": (0, 2)})

    def test_claims_with_each_part_spoilt(self):
        chance = Random(282)
        for sheaf in some_sheaves(283, 25, most_sheets=12, span=6):
            if sheaf.is_level():
                continue
            end = chance.choice(possible_ends(sheaf, breadth=2))
            for claim in (
                claim_demands(sheaf, end, {}, breadth=2), claim_shortest(sheaf, end, breadth=2),
            ):
                paper = claim.paper()
                self.assertTrue(replay(sheaf, paper, breadth=2).is_level())
                for other in (paper[:-1], paper + paper[-1:], [(0, (0,))] + paper):
                    told = Claim(claim.kind, end, claim.subject(), other)
                    self.assertIs(look(sheaf, told, breadth=2), False)
                for other in (end - 1, end + 1, end - 900, end + 900):
                    told = Claim(claim.kind, other, claim.subject(), paper)
                    self.assertIs(look(sheaf, told, breadth=2), False)


if __name__ == "__main__":
    unittest.main()
