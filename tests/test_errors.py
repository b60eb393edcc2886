import unittest

from delve import errors
from delve.ahead import fewest, must, needed, word
from delve.cellars import cellar
from delve.deals import count, dealing_of, dealt, good
from delve.deals import number_of as dealing_number
from delve.deeds import behind
from delve.desk import Desk
from delve.grow import built
from delve.kept import Kept
from delve.papers import judged
from delve.plans import number_of as plan_number
from delve.plans import plan_of
from delve.texts import read, shown
from tests.growth import tower
from tests.model import far_too_wide, gate_to_the_wide, line, never_to_the_end

NAMES = ("NoCellar", "NoDeed", "Wide", "Shut", "NoDeal", "TooMany", "NoPlan", "NoText", "NoRow")
STAND = (1, 2, 3, 4, 5)


def class_of(name):
    return getattr(errors, name)


def made(name):
    if name == "NoDeed":
        return errors.NoDeed(STAND, ("go", 3))
    if name == "Shut":
        return errors.Shut(STAND)
    if name == "NoText":
        return errors.NoText(7)
    return class_of(name)("some words")


class Errors(unittest.TestCase):
    def test_delve_error_is_a_value_error(self):
        self.assertEqual(errors.DelveError.__bases__, (ValueError,))

    def test_each_stands_straight_under_delve_error(self):
        for name in NAMES:
            self.assertEqual(class_of(name).__bases__, (errors.DelveError,), name)

    def test_none_is_taken_by_another_ones_name(self):
        for name in NAMES:
            for other in NAMES:
                taken = isinstance(made(name), class_of(other))
                self.assertEqual(taken, name == other, (name, other))

    def test_each_is_taken_as_any_refusal(self):
        for name in NAMES:
            for base in (errors.DelveError, ValueError):
                with self.assertRaises(base):
                    raise made(name)

    def test_no_deed_has_stand_and_deed(self):
        refusal = made("NoDeed")
        self.assertEqual(refusal.stand, STAND)
        self.assertEqual(refusal.deed, ("go", 3))

    def test_shut_has_stand(self):
        self.assertEqual(made("Shut").stand, STAND)

    def test_no_text_has_line(self):
        self.assertEqual(made("NoText").line, 7)
        self.assertEqual(errors.NoText(0).line, 0)

    def test_each_has_words(self):
        for name in NAMES:
            self.assertNotEqual(str(made(name)), "", name)


def desk(made):
    return Desk(shown(made))


# What is told by name is the refusal, then what is asked and handed in.
RAISED = (
    ("NoDeal", count, [12], 3),
    ("NoDeal", count, [1, 2], 1),
    ("NoDeal", dealing_number, (12,)),
    ("NoDeal", dealing_of, [1], 2, 2),
    ("NoDeal", dealt, line(3), [0, 0], (1, 2)),
    ("NoDeal", good, line(3), [1], [3]),
    ("TooMany", good, line(14), [1, 2], list(range(14))),
    ("Wide", good, far_too_wide(), [1], [0]),
    ("Wide", judged, far_too_wide()),
    ("Wide", must, far_too_wide(), ("go", 0), None),
    ("Wide", needed, far_too_wide()),
    ("Wide", fewest, far_too_wide()),
    ("Wide", word, far_too_wide()),
    ("Shut", needed, never_to_the_end()),
    ("Shut", fewest, never_to_the_end()),
    ("Shut", word, cellar(2, 0, 1, [])),
    ("NoPlan", plan_of, 7, 1),
    ("NoPlan", plan_number, ("walk", ("end",)), 0),
    ("NoCellar", cellar, 0, 0, 0, []),
    ("NoCellar", cellar, 2, 0, 1, [(0, 1, ("door", 12), True)]),
    ("NoDeed", behind, line(2), (0, 0, 0, 0, 0), ("go", 1)),
    ("TooMany", built, tower("walk", 14)),
    ("TooMany", built, tower("bar", 5, False)),
    ("Wide", Kept, far_too_wide()),
    ("Wide", Kept(gate_to_the_wide()).change, 8, ("plain",)),
    ("NoCellar", Kept(gate_to_the_wide()).change, 9, ("plain",)),
    ("NoCellar", Kept(gate_to_the_wide()).change, 8, ("plain", 0)),
    ("Shut", Kept(never_to_the_end()).needed),
    ("NoText", read, ""),
    ("NoText", read, "rooms 1 0 0\nbars 0"),
    ("NoText", read, "rooms 1 0 0\nbars 0\nwater 0\nthing 0 12"),
    ("NoText", Desk, "rooms 1 0 0\nbars 0\nwater 10"),
    ("Wide", Desk, shown(far_too_wide())),
    ("NoRow", desk(line(3)).say, ""),
    ("NoRow", desk(line(3)).say, "do walk 0"),
    ("NoRow", desk(line(3)).say, "gate 0"),
    ("NoRow", desk(line(3)).say, "gate 0 door x"),
    ("NoDeed", desk(line(3)).say, "do go 1"),
    ("NoDeed", desk(line(3)).say, "do take 77"),
    ("Shut", desk(never_to_the_end()).say, "word"),
    ("Shut", desk(never_to_the_end()).say, "needed"),
    ("NoCellar", desk(line(3)).say, "gate 2 plain"),
    ("NoCellar", desk(line(3)).say, "gate 0 door"),
    ("NoCellar", desk(line(3)).say, "gate 0 zzz"),
    ("Wide", desk(gate_to_the_wide()).say, "gate 8 plain"),
)


class Raised(unittest.TestCase):
    def test_each_is_taken_by_its_own_name_and_no_other_refusals(self):
        for row in RAISED:
            for base in (class_of(row[0]), errors.DelveError, ValueError):
                with self.assertRaises(base) as caught:
                    row[1](*row[2:])
            taken = [name for name in NAMES if isinstance(caught.exception, class_of(name))]
            self.assertEqual(taken, [row[0]], row)
            self.assertNotEqual(str(caught.exception), "")

    def test_each_refusal_is_among_them(self):
        self.assertEqual({row[0] for row in RAISED}, set(NAMES))

    def test_no_text_tells_its_line(self):
        ends = ("rooms 1 0 0", "rooms 1 0 0\nbars 0", "rooms 1 0 0\nbars 0\nwater 0\n")
        for text, number in (("", 0), ("rooms 1 0 0\nbars x", 1)) + tuple(zip(ends, (1, 2, 3))):
            for asked in (read, Desk):
                with self.assertRaises(errors.NoText) as caught:
                    asked(text)
                self.assertEqual(caught.exception.line, number)


if __name__ == "__main__":
    unittest.main()
