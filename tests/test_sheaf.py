import unittest

from wornsheaf.errors import InvalidSheaf
from wornsheaf.sheaf import Sheaf, valid_record

MIXED = [(3, "b"), (-2, "a"), (3, "a"), (0, "b"), (-2, "b")]


class TestValidRecord(unittest.TestCase):
    def test_one_to_eight_letters_and_digits(self):
        for text in ["a", "z", "0", "9", "abcdefgh", "zyxw9870", "12345678", "a0", "0a"]:
            self.assertIs(valid_record(text), True, text)

    def test_every_allowed_sign_alone(self):
        for sign in "abcdefghijklmnopqrstuvwxyz0123456789":
            self.assertIs(valid_record(sign), True, sign)
            self.assertIs(valid_record(sign * 8), True, sign)

    def test_empty_and_too_long(self):
        for text in ["", "abcdefghi", "123456789", "a" * 40]:
            self.assertIs(valid_record(text), False, text)

    def test_other_signs_at_every_place(self):
        others = [chr(code) for code in range(128)]
        others = [sign for sign in others if not (sign.islower() or sign.isdigit())]
        for sign in others + ["\u00e4", "\u00df", "\u0661", "\u00b2", "\u2170"]:
            for text in [sign, sign + "ab", "a" + sign + "b", "ab" + sign, sign + sign]:
                self.assertIs(valid_record(text), False, repr(text))


class TestMaking(unittest.TestCase):
    def test_empty_list(self):
        with self.assertRaises(InvalidSheaf) as caught:
            Sheaf([])
        self.assertEqual(caught.exception.index, 0)

    def test_first_wrong_row(self):
        wrong = ["", "abcdefghi", "B", "a\n", "a b", " a", "a-", "a:b"]
        for record in wrong:
            for index in range(4):
                rows = [(0, "a"), (5, "b"), (2, "c"), (1, "d"), (1, "!")]
                rows[index] = (9, record)
                with self.subTest(record=record, index=index):
                    with self.assertRaises(InvalidSheaf) as caught:
                        Sheaf(rows)
                    self.assertEqual(caught.exception.index, index)

    def test_example(self):
        with self.assertRaises(InvalidSheaf) as caught:
            Sheaf([(0, "a"), (1, "B")])
        self.assertEqual(caught.exception.index, 1)

    def test_no_limit_is_checked(self):
        rows = [(5000 - k, "a") for k in range(100)]
        self.assertEqual(Sheaf(rows).rows(), rows)
        self.assertEqual(Sheaf([(-10 ** 30, "a")]).top, -10 ** 30)

    def test_never_changes(self):
        rows = list(MIXED)
        sheaf = Sheaf(rows)
        rows[0] = (100, "zz")
        rows.append((7, "q"))
        self.assertEqual(sheaf.rows(), MIXED)
        self.assertEqual(sheaf.top, 3)
        self.assertEqual(len(sheaf), 5)
        with self.assertRaises(AttributeError):
            sheaf.top = 9
        with self.assertRaises(AttributeError):
            sheaf.bottom = 9


class TestQuestions(unittest.TestCase):
    def test_mixed_sheaf(self):
        sheaf = Sheaf(MIXED)
        self.assertEqual(sheaf.top, 3)
        self.assertEqual(sheaf.bottom, -2)
        self.assertIs(sheaf.is_level(), False)
        self.assertEqual([sheaf.sharpness_of(k) for k in range(5)], [3, -2, 3, 0, -2])
        self.assertEqual([sheaf.record_of(k) for k in range(5)], ["b", "a", "a", "b", "b"])
        self.assertEqual(sheaf.records(), ["a", "b"])
        self.assertEqual(sheaf.shares(), {"a": 2, "b": 3})
        self.assertEqual(sheaf.sheets_of("b"), [0, 3, 4])
        self.assertEqual(sheaf.sheets_of("a"), [1, 2])
        self.assertEqual(sheaf.sheets_of("c"), [])
        self.assertEqual(sheaf.rows(), MIXED)
        self.assertEqual(len(sheaf), 5)
        self.assertEqual(list(sheaf), MIXED)

    def test_level_sheaf(self):
        sheaf = Sheaf([(-4, "c"), (-4, "a"), (-4, "c")])
        self.assertEqual((sheaf.top, sheaf.bottom), (-4, -4))
        self.assertIs(sheaf.is_level(), True)
        self.assertEqual(sheaf.records(), ["a", "c"])
        self.assertEqual(sheaf.shares(), {"c": 2, "a": 1})

    def test_one_sheet(self):
        sheaf = Sheaf([(-1000, "z9")])
        self.assertEqual((sheaf.top, sheaf.bottom), (-1000, -1000))
        self.assertIs(sheaf.is_level(), True)
        self.assertEqual(sheaf.rows(), [(-1000, "z9")])
        self.assertEqual(sheaf.sheets_of("z9"), [0])
        self.assertEqual(sheaf.shares(), {"z9": 1})
        self.assertEqual(len(sheaf), 1)

    def test_top_and_bottom_at_every_place(self):
        for place in range(4):
            rows = [(0, "a")] * 4
            rows[place] = (1, "a")
            self.assertEqual((Sheaf(rows).top, Sheaf(rows).bottom), (1, 0))
            self.assertIs(Sheaf(rows).is_level(), False)
            rows[place] = (-1, "a")
            self.assertEqual((Sheaf(rows).top, Sheaf(rows).bottom), (0, -1))

    def test_records_are_ordered_as_strings(self):
        sheaf = Sheaf([(0, "b"), (1, "a10"), (2, "a9"), (3, "10"), (4, "9"), (5, "b")])
        self.assertEqual(sheaf.records(), ["10", "9", "a10", "a9", "b"])

    def test_a_record_that_is_not_valid_has_no_sheets(self):
        self.assertEqual(Sheaf(MIXED).sheets_of("A b"), [])
        self.assertEqual(Sheaf(MIXED).sheets_of(""), [])

    def test_iteration_can_be_repeated_and_interleaved(self):
        sheaf = Sheaf(MIXED)
        self.assertEqual([first for first, _ in zip(sheaf, sheaf)], MIXED)
        self.assertEqual([row for row in sheaf for _ in sheaf][::5], MIXED)


class TestEquality(unittest.TestCase):
    def test_equal(self):
        self.assertTrue(Sheaf(MIXED) == Sheaf(list(MIXED)))
        self.assertFalse(Sheaf(MIXED) != Sheaf(list(MIXED)))

    def test_what_makes_them_differ(self):
        others = [
            [(3, "b"), (-2, "a"), (4, "a"), (0, "b"), (-2, "b")],
            [(3, "b"), (-2, "a"), (3, "c"), (0, "b"), (-2, "b")],
            [(-2, "a"), (3, "b"), (3, "a"), (0, "b"), (-2, "b")],
            [(3, "b"), (-2, "a"), (3, "a"), (0, "b")],
            [(3, "b"), (-2, "a"), (3, "a"), (0, "b"), (-2, "b"), (-2, "b")],
        ]
        for rows in others:
            self.assertFalse(Sheaf(MIXED) == Sheaf(rows), rows)
            self.assertFalse(Sheaf(rows) == Sheaf(MIXED), rows)
            self.assertTrue(Sheaf(MIXED) != Sheaf(rows), rows)

    def test_other_things(self):
        self.assertFalse(Sheaf(MIXED) == MIXED)
        self.assertFalse(Sheaf(MIXED) == None)  # noqa: E711


class TestBinding(unittest.TestCase):
    def test_example(self):
        bound = Sheaf([(0, "a"), (3, "b")]) + Sheaf([(3, "a")])
        self.assertTrue(bound == Sheaf([(0, "a"), (3, "b"), (3, "a")]))

    def test_bound_sheaf(self):
        first = Sheaf([(5, "x")])
        second = Sheaf(MIXED)
        bound = first + second
        self.assertIsInstance(bound, Sheaf)
        self.assertEqual(bound.rows(), [(5, "x")] + MIXED)
        self.assertEqual((second + first).rows(), MIXED + [(5, "x")])
        self.assertEqual((bound.top, bound.bottom, len(bound)), (5, -2, 6))
        self.assertEqual(first.rows(), [(5, "x")])
        self.assertEqual(second.rows(), MIXED)

    def test_only_sheaves_are_bound(self):
        with self.assertRaises(TypeError):
            Sheaf(MIXED) + MIXED

    def test_with_itself(self):
        sheaf = Sheaf(MIXED)
        self.assertEqual((sheaf + sheaf).rows(), MIXED + MIXED)
        self.assertEqual(len(sheaf), 5)

    def test_three_sheaves(self):
        parts = [Sheaf([(k, "a")]) for k in (2, 1, 3)]
        rows = [(2, "a"), (1, "a"), (3, "a")]
        self.assertEqual((parts[0] + parts[1] + parts[2]).rows(), rows)
        self.assertEqual((parts[0] + (parts[1] + parts[2])).rows(), rows)


if __name__ == "__main__":
    unittest.main()
