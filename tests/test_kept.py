import random
import unittest

from delve.ahead import needed
from delve.back import nears
from delve.cellars import cellar
from delve.errors import NoCellar, Shut, Wide
from delve.grow import built
from delve.kept import Kept
from delve.papers import holds, judged, shows_stuck
from delve.stands import start
from tests.growth import END
from tests.model import (
    all_sorts, far_too_wide, first_is_last, full_cellar, gate_to_the_wide, just_not_wide, just_wide, line, made_anew,
    model_come, model_is_stuck, model_nears, model_needed, needy_cellars, never_to_the_end, some_cellars, some_gate,
    two_keys_alike, wide_parts,
)

PLAIN = ("plain",)
ASKED = ("cellar", "judged", "needed", "nears")
NO_GATES = (
    (), ("plain", 0), ("door",), ("door", 12), ("door", -1), ("door", 1, 1), ("need",), ("need", 12), ("need", -1),
    ("need", 0, 0), ("bar",), ("bar", 8), ("bar", -1), ("bar", 1, 1), ("wade",), ("wade", 1), ("wade", 10, 0),
    ("wade", -1, 0), ("wade", 0, 12), ("wade", 0, -1), ("wade", 1, 1, 1), ("float",), ("float", 10), ("float", -1),
    ("float", 1, 1), ("gate", 1), ("Plain",), ("PLAIN",), ("",), ("plain ",), ("doors", 1), ("way",),
    ("door", 10 ** 59),
)


def told_or_shut(asked):
    try:
        return asked()
    except Shut as shut:
        return ("Shut", shut.stand)


def answers(kept, order=ASKED):
    told = {name: told_or_shut(getattr(kept, name)) for name in order}
    return [told[name] for name in ASKED]


def answers_of(made):
    return [made, judged(made), told_or_shut(lambda: needed(made)), nears(made)]


def gate_in_the_ring(gate):
    """A stand or two come, or just 300 where the gate lets."""
    parts = wide_parts()
    parts["ways"][0] = (0, 1, gate, False)
    return cellar(**parts)


class Made(unittest.TestCase):
    def test_tells_what_the_functions_tell(self):
        for made in some_cellars(40) + needy_cellars(20) + [just_not_wide()]:
            kept = Kept(made)
            self.assertEqual(kept.cellar(), made)
            self.assertEqual(kept.judged(), judged(made))
            self.assertEqual(kept.nears(), nears(made))
            self.assertEqual(told_or_shut(kept.needed), told_or_shut(lambda: needed(made)))

    def test_as_the_model_has_it(self):
        for made in some_cellars(30) + needy_cellars(20):
            kept = Kept(cellar=made)
            self.assertEqual(kept.nears(), model_nears(made))
            told = kept.judged()
            self.assertEqual(told[0], "stuck" if model_is_stuck(made) else "never")
            self.assertTrue(holds(made, told[1]) if told[0] == "never" else shows_stuck(made, told[1], told[2]))
            wanted = model_needed(made, start(made))
            self.assertEqual(told_or_shut(kept.needed), ("Shut", start(made)) if wanted is None else wanted)

    def test_in_any_order_and_again(self):
        for made in (all_sorts(), two_keys_alike(), never_to_the_end(), first_is_last()):
            wanted = answers_of(made)
            for order in (ASKED, ASKED[::-1], ("nears", "cellar", "needed", "judged"), ASKED * 2):
                kept = Kept(made)
                self.assertEqual(answers(kept, order), wanted)
                self.assertEqual(answers(kept, order), wanted)

    def test_wide(self):
        for made in (just_wide(), far_too_wide(), full_cellar()):
            with self.assertRaises(Wide) as caught:
                Kept(made)
            self.assertIs(type(caught.exception), Wide)
        self.assertEqual(len(Kept(just_not_wide()).nears()), 300)

    def test_shut_has_the_start(self):
        for made in (never_to_the_end(), cellar(2, 0, 1, [], bars=7, water=4)):
            with self.assertRaises(Shut) as caught:
                Kept(made).needed()
            self.assertEqual(caught.exception.stand, start(made))


class Change(unittest.TestCase):
    def changed(self, kept, way, gate):
        wanted = made_anew(kept.cellar(), way, gate)
        self.assertIsNone(kept.change(way, gate))
        self.assertEqual(answers(kept), answers_of(wanted))

    def test_by_hand(self):
        kept = Kept(line(3))
        self.assertEqual(kept.needed(), [])
        kept.change(1, ("door", 4))
        self.assertEqual(kept.cellar(), cellar(3, 0, 2, [(0, 1, PLAIN, True), (1, 2, ("door", 4), True)]))
        self.assertEqual(kept.judged(), ("stuck", [], [(0, 0, 0, 0, 0), (1, 0, 0, 0, 0)]))
        self.assertEqual(kept.nears(), [((0, 0, 0, 0, 0), None), ((1, 0, 0, 0, 0), None)])
        self.assertRaises(Shut, kept.needed)
        kept.change(way=1, gate=("float", 0))
        self.assertEqual(kept.judged()[0], "never")
        self.assertEqual(kept.needed(), [])
        self.assertEqual([near for stand, near in kept.nears()], [2, 1, 0])

    def test_to_a_door_and_from_one(self):
        made = cellar(3, 0, 2, [(0, 1, PLAIN, True), (1, 2, PLAIN, False)], [(0, 4)])
        kept = Kept(made)
        self.assertEqual(kept.needed(), [])
        self.changed(kept, 1, ("door", 4))
        self.assertEqual(kept.needed(), [("take", 0), ("unlock", 1)])
        self.assertEqual(len(kept.nears()), 7)
        self.changed(kept, 0, ("door", 4))
        self.assertRaises(Shut, kept.needed)
        self.changed(kept, 1, ("need", 4))
        self.assertRaises(Shut, kept.needed)
        self.changed(kept, 0, ("wade", 9, 0))
        self.assertEqual(kept.needed(), [("take", 0)])
        self.changed(kept, 1, PLAIN)
        self.changed(kept, 0, PLAIN)
        self.assertEqual(answers(kept), answers_of(made))

    def test_to_the_gate_that_it_is(self):
        for made in some_cellars(20):
            kept = Kept(made)
            wanted = answers(kept)
            for way, row in enumerate(made[3]):
                self.assertIsNone(kept.change(way, row[2]))
            self.assertEqual(answers(kept), wanted)

    def test_all_ways_and_all_gates(self):
        gates = (PLAIN, ("door", 0), ("door", 11), ("need", 11), ("bar", 0), ("bar", 7), ("wade", 0, 0),
                 ("wade", 9, 11), ("float", 0), ("float", 9))
        for made in (all_sorts(), two_keys_alike(), line(4)):
            for way in range(len(made[3])):
                kept = Kept(made)
                for gate in gates:
                    if model_come(made_anew(made, way, gate)) is not None:
                        self.changed(kept, way, gate)

    def test_change_behind_change(self):
        source = random.Random(27)
        seen = set()
        for made in some_cellars(40) + [gate_to_the_wide(("bar", 3))] * 8:
            kept = Kept(made)
            for time in range(6):
                if made[3]:
                    way = source.randrange(len(made[3]))
                    gate = some_gate(source)
                    wanted = made_anew(kept.cellar(), way, gate)
                    if model_come(wanted) is None:
                        seen.add("wide")
                        self.assertRaises(Wide, kept.change, way, gate)
                    else:
                        self.changed(kept, way, gate)
                        seen.add(kept.judged()[0])
        self.assertEqual(seen, {"wide", "never", "stuck"})

    def test_only_the_gate_is_another_one(self):
        for made in some_cellars(30):
            for way, row in enumerate(made[3]):
                kept = Kept(made)
                kept.change(way, ("need", 11))
                told = kept.cellar()
                self.assertEqual(told[:3] + told[4:], made[:3] + made[4:])
                self.assertEqual(told[3][:way] + told[3][way + 1:], made[3][:way] + made[3][way + 1:])
                self.assertEqual(told[3][way], (row[0], row[1], ("need", 11), row[3]))
                self.assertIs(type(told[3][way][3]), bool)

    def test_a_way_that_is_asked_for_in_between(self):
        for order in (ASKED, ASKED[::-1], ("nears",), ("needed", "judged")):
            kept = Kept(built(("door", ("walk", END), ("bar", END, END))))
            for way, gate in ((2, ("need", 0)), (3, ("float", 0)), (0, ("need", 0)), (0, PLAIN), (2, ("door", 0))):
                wanted = made_anew(kept.cellar(), way, gate)
                kept.change(way, gate)
                for name in order:
                    told_or_shut(getattr(kept, name))
                self.assertEqual(answers(kept), answers_of(wanted))


class Refused(unittest.TestCase):
    def refused(self, refusal, kept, way, gate):
        made = kept.cellar()
        with self.assertRaises(refusal) as caught:
            kept.change(way, gate)
        self.assertIs(type(caught.exception), refusal)
        self.assertEqual(kept.cellar(), made)

    def test_the_way_is_none(self):
        for made in (all_sorts(), line(1), line(2), line(14), never_to_the_end()):
            kept = Kept(made)
            many = len(made[3])
            for way in (-1, -2, -many, many, many + 1, 20, 10 ** 59, -10 ** 59):
                if not 0 <= way < many:
                    self.refused(NoCellar, kept, way, PLAIN)
                    self.refused(NoCellar, kept, way, ("door", 1))
                    self.assertEqual(answers(kept), answers_of(made))

    def test_the_gate_is_none(self):
        for made in (all_sorts(), line(2), never_to_the_end()):
            kept = Kept(made)
            for gate in NO_GATES:
                for way in range(len(made[3])):
                    self.refused(NoCellar, kept, way, gate)
                self.refused(NoCellar, kept, len(made[3]), gate)
                self.refused(NoCellar, kept, -1, gate)
                self.assertEqual(answers(kept), answers_of(made))

    def test_wide(self):
        kept = Kept(gate_to_the_wide(("need", 11)))
        self.assertEqual(len(kept.nears()), 1)
        for gate in (PLAIN, ("wade", 0, 11), ("wade", 9, 0), ("float", 0)):
            self.refused(Wide, kept, 8, gate)
            self.assertEqual(answers(kept), answers_of(gate_to_the_wide(("need", 11))))
        for gate in (("float", 1), ("bar", 0), ("door", 2)):
            self.assertIsNone(kept.change(8, gate))
            self.assertEqual(kept.cellar(), gate_to_the_wide(gate))

    def test_just_not_wide(self):
        kept = Kept(gate_in_the_ring(("need", 11)))
        self.assertIsNone(kept.change(0, PLAIN))
        self.assertEqual(kept.cellar(), just_not_wide())
        self.assertEqual(len(kept.nears()), 300)
        self.assertIsNone(kept.change(0, ("need", 11)))
        self.assertEqual(answers(kept), answers_of(gate_in_the_ring(("need", 11))))

    def test_no_cellar_ahead_of_wide(self):
        kept = Kept(gate_to_the_wide(("bar", 0)))
        self.refused(Wide, kept, 8, PLAIN)
        for gate in NO_GATES:
            self.refused(NoCellar, kept, 8, gate)
        for way in (-1, 9, 100):
            self.refused(NoCellar, kept, way, PLAIN)
        self.assertEqual(answers(kept), answers_of(gate_to_the_wide(("bar", 0))))

    def test_behind_a_refusal_it_is_changed_as_before(self):
        kept = Kept(gate_to_the_wide(("bar", 0)))
        self.refused(Wide, kept, 8, PLAIN)
        self.refused(NoCellar, kept, 9, PLAIN)
        self.assertIsNone(kept.change(1, ("door", 1)))
        self.assertIsNone(kept.change(8, ("bar", 7)))
        self.assertEqual(answers(kept), answers_of(made_anew(gate_to_the_wide(("bar", 7)), 1, ("door", 1))))


class Apart(unittest.TestCase):
    def test_two_kept_cellars_side_by_side(self):
        made = two_keys_alike()
        one, other, third = Kept(made), Kept(made), Kept(all_sorts())
        one.change(1, PLAIN)
        self.assertEqual(answers(other), answers_of(made))
        self.assertEqual(answers(third), answers_of(all_sorts()))
        other.change(2, ("need", 2))
        third.change(0, ("door", 3))
        self.assertEqual(answers(one), answers_of(made_anew(made, 1, PLAIN)))
        self.assertEqual(answers(other), answers_of(made_anew(made, 2, ("need", 2))))
        self.assertEqual(answers(third), answers_of(made_anew(all_sorts(), 0, ("door", 3))))
        self.assertEqual(made, two_keys_alike())

    def test_what_was_told_before_a_change_stays(self):
        made = two_keys_alike()
        kept = Kept(made)
        told = answers(kept)
        kept.change(3, PLAIN)
        self.assertNotEqual(answers(kept), told)
        self.assertEqual(told, answers_of(made))

    def test_what_is_done_to_what_was_told_changes_no_answer(self):
        for made in (two_keys_alike(), all_sorts()):
            kept = Kept(made)
            kept.change(0, ("wade", 9, 0))
            wanted = answers_of(made_anew(made, 0, ("wade", 9, 0)))
            for part in kept.judged()[1:] + (kept.nears(),):
                part.clear()
            told_or_shut(kept.needed)
            self.assertEqual(answers(kept), wanted)
            if isinstance(wanted[2], list):
                kept.needed().append("x")
            kept.judged()[1].reverse()
            self.assertEqual(answers(kept), wanted)

    def test_what_is_done_to_the_lists_that_made_it(self):
        ways = [(0, 1, PLAIN, True), (1, 2, ("need", 1), True)]
        things = [(0, 1)]
        kept = Kept(cellar(3, 0, 2, ways, things))
        wanted = answers(kept)
        ways.clear()
        things.append((1, 1))
        self.assertEqual(answers(kept), wanted)

    def test_the_cellar_that_it_tells_is_whole(self):
        made = all_sorts()
        kept = Kept(made)
        kept.change(2, ("wade", 3, 3))
        told = kept.cellar()
        self.assertEqual(cellar(*told), told)
        self.assertIs(type(told), tuple)
        self.assertEqual({type(way) for way in told[3]}, {tuple})
        hash(told)


if __name__ == "__main__":
    unittest.main()
