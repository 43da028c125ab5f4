import inspect
import unittest

from wornsheaf import errors
from wornsheaf.errors import WornError

ATTRIBUTES = {
    "InvalidSheaf": ["index"],
    "InvalidDeed": ["position"],
    "InvalidEntry": [],
    "InvalidText": ["position"],
    "InvalidBox": ["index"],
    "InvalidDemands": ["record"],
    "UnknownRecord": ["record"],
    "Impossible": ["reason"],
    "RepeatedRecord": ["record"],
    "NoOutcome": [],
    "ContradictoryLog": ["position"],
    "InvalidRound": ["position"],
    "WrongMove": ["index"],
    "InvalidName": ["name"],
    "UsedName": ["name"],
    "UnknownName": ["name"],
    "NothingToUndo": ["name"],
    "NothingToRedo": ["name"],
    "Spoiled": ["position", "reason"],
    "InvalidPage": ["line"],
}
WORTHS = {
    "index": 7,
    "position": 3,
    "record": "ab1",
    "reason": ("height", 4, 2),
    "name": "n0",
    "line": 12,
}


class TestErrors(unittest.TestCase):
    def test_there_are_twenty_errors(self):
        classes = [
            name for name, thing in vars(errors).items()
            if inspect.isclass(thing) and thing is not WornError
        ]
        self.assertEqual(sorted(classes), sorted(ATTRIBUTES))
        self.assertEqual(len(classes), 20)

    def test_worn_error_is_a_value_error(self):
        self.assertEqual(WornError.__bases__, (ValueError,))

    def test_each_error_is_a_direct_subclass(self):
        for name in ATTRIBUTES:
            with self.subTest(name):
                error = getattr(errors, name)
                self.assertEqual(error.__bases__, (WornError,))
                self.assertEqual(error.__module__, "wornsheaf.errors")

    def test_arguments_are_attributes(self):
        for name, attributes in ATTRIBUTES.items():
            with self.subTest(name):
                made = getattr(errors, name)(*[WORTHS[word] for word in attributes])
                self.assertIsInstance(made, ValueError)
                for word in attributes:
                    self.assertEqual(getattr(made, word), WORTHS[word])

    def test_arguments_have_the_listed_names(self):
        for name, attributes in ATTRIBUTES.items():
            with self.subTest(name):
                made = getattr(errors, name)(**{word: WORTHS[word] for word in attributes})
                self.assertEqual(vars(made), {word: WORTHS[word] for word in attributes})

    def test_a_missing_argument_is_refused(self):
        for name, attributes in ATTRIBUTES.items():
            if attributes:
                with self.subTest(name), self.assertRaises(TypeError):
                    getattr(errors, name)(*[0] * (len(attributes) - 1))

    def test_errors_are_caught_by_their_base(self):
        with self.assertRaises(WornError) as caught:
            raise errors.Spoiled(2, ("total", 9))
        self.assertEqual(caught.exception.position, 2)
        self.assertEqual(caught.exception.reason, ("total", 9))


if __name__ == "__main__":
    unittest.main()
