import unittest
from random import Random

from tests.helpers import some_log, some_sheaves
from wornsheaf.errors import InvalidText
from wornsheaf.notation import (
    format_deed, format_demands, format_log, format_sheaf,
    parse_deed, parse_demands, parse_log, parse_sheaf,
)
from wornsheaf.sheaf import Sheaf

# What is no number in any text: as the number itself and inside of words.
NO_NUMBERS = [
    "", "00", "01", "007", "+1", "+0", "--1", "1234567890", "0123456789", "1.0", "1e3", "1_0",
    "x", "1x", "x1", "A", "\n", "1\n", "\n1", "1\n2", "0x1", "-", "1-", "~", "!",
]


class TextCase(unittest.TestCase):
    def wrong_at(self, function, text, position):
        with self.subTest(function=function.__name__, text=text):
            with self.assertRaises(InvalidText) as caught:
                function(text)
            self.assertEqual(caught.exception.position, position)

    def wrong_words(self, function, words, good):
        """Hold each wrong word alone, and at every place between good words."""
        for word in words:
            pieces = word.count(" ")
            self.assertEqual(pieces, 0, "a wrong word is one word")
            self.wrong_at(function, word, 0)
            for place in range(len(good) + 1):
                self.wrong_at(function, " ".join(good[:place] + [word] + good[place:]), place)
            behind = " ".join(good + [word, word, ""])
            self.wrong_at(function, behind, len(good))

    def wrong_blanks(self, function, good):
        """Hold empty words at the start, in the middle and at the end."""
        text = " ".join(good)
        self.wrong_at(function, " ", 0)
        self.wrong_at(function, "  ", 0)
        self.wrong_at(function, " " + text, 0)
        self.wrong_at(function, text + " ", len(good))
        self.wrong_at(function, text + "  ", len(good))
        self.wrong_at(function, good[0] + "  " + good[1], 1)
        self.wrong_at(function, "\n" + text, 0)
        self.wrong_at(function, text + "\n", len(good) - 1)
        self.wrong_at(function, "\n".join(good), 0)


class TestSheafText(TextCase):
    GOOD = ["0:a", "-12:b1", "1000:abcdefgh"]

    def test_there_and_back(self):
        sheaf = Sheaf([(0, "a"), (-12, "b1"), (1000, "abcdefgh"), (0, "0")])
        text = "0:a -12:b1 1000:abcdefgh 0:0"
        self.assertEqual(format_sheaf(sheaf), text)
        self.assertTrue(parse_sheaf(text) == sheaf)
        self.assertIsInstance(parse_sheaf(text), Sheaf)
        self.assertEqual(format_sheaf(Sheaf([(-1, "z")])), "-1:z")

    def test_random_sheaves(self):
        for sheaf in some_sheaves(51, 100):
            self.assertTrue(parse_sheaf(format_sheaf(sheaf)) == sheaf)

    def test_nine_digits(self):
        for number in (999999999, 100000000, -999999999, -1, 0, 10, 1001, -1001):
            sheaf = parse_sheaf(f"{number}:a")
            self.assertEqual(sheaf.rows(), [(number, "a")])
            self.assertEqual(format_sheaf(sheaf), f"{number}:a")

    def test_example(self):
        self.wrong_at(parse_sheaf, "0:a  1:b", 1)

    def test_empty_text(self):
        self.wrong_at(parse_sheaf, "", 0)

    def test_wrong_numbers(self):
        wrong = NO_NUMBERS + ["-0", "-00", "-01", "-+1", "--0", "-1234567890", "-x"]
        self.wrong_words(parse_sheaf, [f"{number}:a" for number in wrong], self.GOOD)

    def test_wrong_records(self):
        records = [
            "", "A", "aB", "abcdefghi", "a:", ":", ":a", "a:b", "a-", "a\n", "\na", "a\nb",
            "a.b", "~", "-1", "1,2", "\n",
        ]
        self.wrong_words(parse_sheaf, [f"1:{record}" for record in records], self.GOOD)

    def test_missing_parts(self):
        words = ["1", "a", ":", "1a", "1;a", "a:1", "1>a", "1=a"]
        self.wrong_words(parse_sheaf, words, self.GOOD)

    def test_empty_words(self):
        self.wrong_blanks(parse_sheaf, self.GOOD)


class TestDeedText(TextCase):
    def test_there_and_back(self):
        for deed, text in [
            ((2, (0,)), "2>0"), ((0, (1, 2, 30)), "0>1,2,30"), ((10, (9, 10, 11)), "10>9,10,11"),
            ((999999999, (0, 100000000)), "999999999>0,100000000"),
        ]:
            self.assertEqual(format_deed(deed), text)
            self.assertEqual(parse_deed(text), deed)
            self.assertIsInstance(parse_deed(text), tuple)
            self.assertIsInstance(parse_deed(text)[1], tuple)

    def test_no_deed_is_refused_for_not_being_allowed(self):
        self.assertEqual(parse_deed("3>3"), (3, (3,)))
        self.assertEqual(parse_deed("5>4,5,6,7,8,9,10"), (5, (4, 5, 6, 7, 8, 9, 10)))

    def test_every_other_text(self):
        for text in [
            "", " ", "2>0 ", " 2>0", "2>0 1>0", "2 >0", "2> 0", "2>0, 1", "2>0\n", "\n2>0",
            "2>0\n1>0", "2>", ">0", ">", "2", "2>0>1", "2>0,", "2>,0", "2>0,,1", "2>1,0", "2>1,1",
            "2>0,2,1", "-2>0", "-0>0", "2>-1", "2>-0", "02>0", "2>00", "2>01", "+2>0", "2>+1",
            "1234567890>0", "2>1234567890", "a>b", "2>a", "2:0", "2>0;1", "2>0.0", "2>>0", "A",
        ]:
            self.wrong_at(parse_deed, text, 0)

    def test_first_wrong_word_is_not_told(self):
        self.wrong_at(parse_deed, "2>0 x", 0)


class TestLogText(TextCase):
    GOOD = ["2>0", "1>0,2", "12>3,4,5,13"]

    def test_example(self):
        self.assertEqual(parse_log("2>0 1>0,2"), [(2, (0,)), (1, (0, 2))])
        self.assertEqual(format_log([(2, (0,)), (1, (0, 2))]), "2>0 1>0,2")

    def test_empty_log(self):
        self.assertEqual(format_log([]), "")
        self.assertEqual(parse_log(""), [])

    def test_random_logs(self):
        chance = Random(52)
        for sheaf in some_sheaves(53, 40, most_sheets=15, span=6):
            log, _ = some_log(sheaf, 4, chance)
            self.assertEqual(parse_log(format_log(log)), log)

    def test_allowed_or_not(self):
        self.assertEqual(parse_log("0>0 0>0,1"), [(0, (0,)), (0, (0, 1))])

    def test_wrong_numbers(self):
        wrong = NO_NUMBERS + ["-0", "-1"]
        self.wrong_words(parse_log, [f"{number}>0" for number in wrong], self.GOOD)
        self.wrong_words(parse_log, [f"9>{number}" for number in wrong], self.GOOD)
        self.wrong_words(parse_log, [f"9>{number},5000" for number in wrong], self.GOOD)
        self.wrong_words(parse_log, [f"9>0,{number}" for number in wrong], self.GOOD)

    def test_targets_not_ascending(self):
        words = ["9>1,0", "9>1,1", "9>0,2,1", "9>0,2,2", "9>10,9", "9>2,10,10"]
        self.wrong_words(parse_log, words, self.GOOD)

    def test_missing_parts(self):
        words = ["9", ">", "9>", ">0", "9>0,", "9>,0", "9>0,,1", "9>0>1", "9:0", "9=0", "9-0"]
        self.wrong_words(parse_log, words, self.GOOD)

    def test_empty_words(self):
        self.wrong_blanks(parse_log, self.GOOD)


class TestDemandsText(TextCase):
    GOOD = ["a=1", "b=20", "c0=300"]

    def test_example(self):
        self.assertEqual(format_demands({"b": 2, "a": 0}), "b=2")

    def test_there_and_back(self):
        demands = {"c0": 300, "a": 1, "b": 20}
        self.assertEqual(format_demands(demands), "a=1 b=20 c0=300")
        self.assertEqual(parse_demands("a=1 b=20 c0=300"), demands)
        self.assertEqual(format_demands({"b": 1, "a10": 1, "a9": 1, "9": 1, "10": 1}),
                         "10=1 9=1 a10=1 a9=1 b=1")
        self.assertEqual(parse_demands("a=999999999"), {"a": 999999999})

    def test_all_zero(self):
        self.assertEqual(format_demands({}), "")
        self.assertEqual(format_demands({"a": 0, "b": 0}), "")
        self.assertEqual(parse_demands(""), {})

    def test_random_demands(self):
        chance = Random(54)
        for _ in range(100):
            demands = {chance.choice("abcdefgh") + str(k): chance.randint(0, 3) for k in range(9)}
            wanted = {record: many for record, many in demands.items() if many != 0}
            self.assertEqual(parse_demands(format_demands(demands)), wanted)

    def test_wrong_numbers(self):
        wrong = NO_NUMBERS + ["0", "-0", "-1"]
        for number in wrong:
            self.wrong_at(parse_demands, f"a={number}", 0)
            self.wrong_at(parse_demands, f"a={number} b=1", 0)
            self.wrong_at(parse_demands, f"a=1 b={number}", 1)
            self.wrong_at(parse_demands, f"a=1 b={number} c=0", 1)
            self.wrong_at(parse_demands, f"a=1 b=2 c={number}", 2)

    def test_wrong_records(self):
        for record in ["", "B", "bC", "bcdefghij", "b:", "b\n", "\nb", "b=", "b-"]:
            self.wrong_at(parse_demands, f"{record}=1", 0)
            self.wrong_at(parse_demands, f"a=1 {record}=1 c=1", 1)

    def test_doubled_or_out_of_order(self):
        self.wrong_at(parse_demands, "a=1 a=1", 1)
        self.wrong_at(parse_demands, "a=1 b=1 b=2", 2)
        self.wrong_at(parse_demands, "b=1 a=1", 1)
        self.wrong_at(parse_demands, "a=1 c=1 b=1 0=1", 2)
        self.wrong_at(parse_demands, "9=1 10=1", 1)
        self.wrong_at(parse_demands, "a=1 0=1", 1)

    def test_missing_parts(self):
        words = ["b", "b1", "=", "b=", "=1", "b==1", "b=1=1", "b:1", "b>1", "1"]
        self.wrong_words(parse_demands, words, ["a=1"][:0])
        for word in words:
            self.wrong_at(parse_demands, f"a=1 {word} c=1", 1)

    def test_empty_words(self):
        self.wrong_blanks(parse_demands, self.GOOD)


if __name__ == "__main__":
    unittest.main()
