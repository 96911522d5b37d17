import unittest

from almostall import errors

REFUSALS = (
    "NoCount NoPlace NoTie NoText NoName TooMany NoWant NoPrime NoWay NoSentence NoMark NoChance "
    "NoPosition BadChain NoPair NoLine NoWord"
).split()


class Refusals(unittest.TestCase):
    def test_any_refusal_is_a_value_error(self):
        self.assertEqual(errors.WebError.__bases__, (ValueError,))

    def test_each_stands_straight_under_web_error(self):
        for name in REFUSALS:
            with self.subTest(name=name):
                self.assertEqual(getattr(errors, name).__bases__, (errors.WebError,))

    def test_they_are_seventeen_unlike_classes(self):
        self.assertEqual(len({getattr(errors, name) for name in REFUSALS}), 17)

    def test_fields_are_set_when_a_refusal_is_made(self):
        self.assertEqual(errors.NoPlace(9).place, 9)
        self.assertEqual(errors.NoTie(2).place, 2)
        self.assertEqual(errors.NoText(5).at, 5)
        self.assertEqual(errors.NoName("v").name, "v")
        self.assertEqual(errors.NoWay("st").way, "st")
        self.assertEqual(errors.NoSentence(("x", "w")).names, ("x", "w"))
        self.assertEqual(errors.BadChain(3).place, 3)
        self.assertEqual(errors.NoPair((0, 4)).places, (0, 4))


if __name__ == "__main__":
    unittest.main()
