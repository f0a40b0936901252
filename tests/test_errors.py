"""Point 3 and the interface of oncewise.errors."""

import unittest

from oncewise import errors

REFUSALS = [
    "NoWord", "BadText", "BadWeb", "BadTree", "BadChoices",
    "NoTree", "NoCut", "NoExchange", "OtherWeb", "TooMany",
]


def made(name):
    if name == "NoTree":
        return errors.NoTree("no tree", [0, 1])
    return getattr(errors, name)("refused")


class Classes(unittest.TestCase):
    def test_once_error_stands_straight_under_value_error(self):
        self.assertEqual(errors.OnceError.__bases__, (ValueError,))

    def test_each_refusal_stands_straight_under_once_error(self):
        for name in REFUSALS:
            with self.subTest(name=name):
                self.assertEqual(getattr(errors, name).__bases__, (errors.OnceError,))

    def test_no_refusal_stands_under_another(self):
        for name in REFUSALS:
            for other in REFUSALS:
                with self.subTest(name=name, other=other):
                    under = issubclass(getattr(errors, name), getattr(errors, other))
                    self.assertEqual(under, name == other)

    def test_each_can_be_raised_and_taken_as_any_of_its_bases(self):
        for name in REFUSALS:
            for base in (getattr(errors, name), errors.OnceError, ValueError):
                with self.subTest(name=name, base=base):
                    with self.assertRaises(base):
                        raise made(name)


class NoTreeField(unittest.TestCase):
    def test_choices_are_kept(self):
        error = errors.NoTree("a switching is at fault", [0, 1, 1])
        self.assertEqual(error.choices, [0, 1, 1])
        self.assertEqual(str(error), "a switching is at fault")
        self.assertEqual(errors.NoTree("none", []).choices, [])

    def test_choices_are_the_takers_own(self):
        choices = [0, 1]
        error = errors.NoTree("a switching is at fault", choices)
        error.choices.append(0)
        self.assertEqual(choices, [0, 1])
        choices.clear()
        self.assertEqual(error.choices, [0, 1, 0])


if __name__ == "__main__":
    unittest.main()
