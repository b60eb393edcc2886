import unittest

from delve import errors

NAMES = ("NoCellar", "NoDeed", "Wide", "Shut", "NoDeal", "TooMany", "NoPlan", "NoText", "NoRow")
STAND = (1, 2, 3, 4, 5)


def class_of(name):
    return getattr(errors, name)


def made(name):
    if name == "NoDeed":
        return errors.NoDeed(STAND, ("go", 3))
    if name == "Shut":
        return errors.Shut(STAND)
    if name == "NoText":
        return errors.NoText(7)
    return class_of(name)("some words")


class Errors(unittest.TestCase):
    def test_delve_error_is_a_value_error(self):
        self.assertEqual(errors.DelveError.__bases__, (ValueError,))

    def test_each_stands_straight_under_delve_error(self):
        for name in NAMES:
            self.assertEqual(class_of(name).__bases__, (errors.DelveError,), name)

    def test_none_is_taken_by_another_ones_name(self):
        for name in NAMES:
            for other in NAMES:
                taken = isinstance(made(name), class_of(other))
                self.assertEqual(taken, name == other, (name, other))

    def test_each_is_taken_as_any_refusal(self):
        for name in NAMES:
            for base in (errors.DelveError, ValueError):
                with self.assertRaises(base):
                    raise made(name)

    def test_no_deed_has_stand_and_deed(self):
        refusal = made("NoDeed")
        self.assertEqual(refusal.stand, STAND)
        self.assertEqual(refusal.deed, ("go", 3))

    def test_shut_has_stand(self):
        self.assertEqual(made("Shut").stand, STAND)

    def test_no_text_has_line(self):
        self.assertEqual(made("NoText").line, 7)
        self.assertEqual(errors.NoText(0).line, 0)

    def test_each_has_words(self):
        for name in NAMES:
            self.assertNotEqual(str(made(name)), "", name)


if __name__ == "__main__":
    unittest.main()
