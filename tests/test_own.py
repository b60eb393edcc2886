"""Nothing that is handed in is changed, and what is told is the asker's own: of each name in the interface."""

import copy
import unittest

from delve import ahead, back, cellars, deals, deeds, folds, gates, grow, papers, plans, stands, texts, walks
from delve.desk import Desk
from delve.errors import DelveError
from delve.kept import Kept
from tests.growth import END
from tests.model import all_sorts, far_too_wide, line, model_nears, model_paper, never_to_the_end, two_keys_alike
from tests.test_interface import CLASSES, FUNCTIONS

BEGIN = (0, 0, 0, 0, 3)
TAKEN = (0, 1, 0, 0, 3)
PLAN = ("lock", ("walk", END), ("door", ("spare", END), ("bar", ("drop", END), END)))


def parts():
    return (3, 0, 2, [(0, 1, ("plain",), True), (1, 2, ("door", 4), False)], [(0, 4)], [(0, 1)], [(1, 3)], 1, 2)


def paper():
    return papers.judged(all_sorts())[1]


def stuck():
    return ([], sorted(stand for stand, near in model_nears(never_to_the_end())))


def told_of(name, ask):
    """Of an object what it tells, for two of them aren't alike."""
    def asked(*handed_in):
        return ask(*handed_in).told()
    return (name, asked)


# The name, what is asked, what is handed in: made anew each time.
CALLS = [
    (("cellars", "cellar"), cellars.cellar, parts),
    (("cellars", "cellar"), cellars.cellar, lambda: (2, 0, 1, [])),
    (("cellars", "cellar"), cellars.cellar, lambda: (2, 0, 1, [(0, 0, ("plain",), True)])),
    told_of(("gates", "gate_of"), gates.gate_of) + (lambda: (("wade", 3, 4),),),
    (("gates", "is_gate"), gates.is_gate, lambda: (("wade", 3, 4),)),
    (("stands", "start"), stands.start, lambda: (all_sorts(),)),
    (("stands", "held"), stands.held, lambda: (all_sorts(), TAKEN)),
    (("stands", "is_stand"), stands.is_stand, lambda: (all_sorts(), TAKEN)),
    told_of(("deeds", "deed_of"), deeds.deed_of) + (lambda: (("go", 3),),),
    (("deeds", "deeds_at"), deeds.deeds_at, lambda: (all_sorts(), BEGIN)),
    (("deeds", "behind"), deeds.behind, lambda: (all_sorts(), BEGIN, ("take", 0))),
    (("deeds", "behind"), deeds.behind, lambda: (all_sorts(), BEGIN, ("take", 1))),
    (("walks", "come"), walks.come, lambda: (all_sorts(),)),
    (("walks", "come"), walks.come, lambda: (all_sorts(), TAKEN)),
    (("walks", "come"), walks.come, lambda: (far_too_wide(),)),
    (("walks", "depths"), walks.depths, lambda: (all_sorts(),)),
    (("folds", "round_of"), folds.round_of, lambda: (all_sorts(), BEGIN)),
    (("folds", "fold"), folds.fold, lambda: (all_sorts(), BEGIN)),
    (("folds", "folds"), folds.folds, lambda: (all_sorts(),)),
    (("folds", "steps"), folds.steps, lambda: (all_sorts(), BEGIN)),
    (("back", "nears"), back.nears, lambda: (two_keys_alike(),)),
    (("back", "shut_stands"), back.shut_stands, lambda: (two_keys_alike(),)),
    (("papers", "judged"), papers.judged, lambda: (all_sorts(),)),
    (("papers", "judged"), papers.judged, lambda: (two_keys_alike(),)),
    (("papers", "holds"), papers.holds, lambda: (all_sorts(), paper())),
    (("papers", "holds"), papers.holds, lambda: (all_sorts(), model_paper(all_sorts())[::-1])),
    (("papers", "holds"), papers.holds, lambda: (all_sorts(), paper()[1:])),
    (("papers", "shows_stuck"), papers.shows_stuck, lambda: (never_to_the_end(),) + stuck()),
    (("papers", "shows_stuck"), papers.shows_stuck, lambda: (never_to_the_end(), [("go", 1)], [(2, 0, 0, 0, 0)] * 2)),
    (("ahead", "must"), ahead.must, lambda: (all_sorts(), ("take", 0), None)),
    (("ahead", "must"), ahead.must, lambda: (all_sorts(), ("turn", 0), None, TAKEN)),
    (("ahead", "needed"), ahead.needed, lambda: (all_sorts(),)),
    (("ahead", "needed"), ahead.needed, lambda: (never_to_the_end(),)),
    (("ahead", "fewest"), ahead.fewest, lambda: (all_sorts(),)),
    (("ahead", "word"), ahead.word, lambda: (all_sorts(), TAKEN)),
    (("deals", "count"), deals.count, lambda: ([4, 2, 4], 5)),
    (("deals", "count"), deals.count, lambda: ([4, 12], 5)),
    (("deals", "number_of"), deals.number_of, lambda: ((4, None, 2),)),
    (("deals", "dealing_of"), deals.dealing_of, lambda: ([4, 2, 4], 5, 7)),
    (("deals", "dealt"), deals.dealt, lambda: (all_sorts(), [2, 0, 1], (3, None, 5))),
    (("deals", "good"), deals.good, lambda: (all_sorts(), [5, 3], [2, 0, 1])),
    (("deals", "good"), deals.good, lambda: (all_sorts(), [5, 3], [2, 2])),
    (("plans", "plan_depth"), plans.plan_depth, lambda: (PLAN,)),
    (("plans", "many"), plans.many, lambda: (3,)),
    (("plans", "plan_of"), plans.plan_of, lambda: (1000, 3)),
    (("plans", "number_of"), plans.number_of, lambda: (PLAN, 4)),
    (("grow", "built"), grow.built, lambda: (PLAN,)),
    (("texts", "shown"), texts.shown, lambda: (all_sorts(),)),
    (("texts", "read"), texts.read, lambda: (texts.shown(all_sorts()),)),
    (("texts", "read"), texts.read, lambda: ("rooms 1 0 0",)),
]


def asked(ask, handed_in):
    """What is told, or the refusal's name and values."""
    try:
        return ask(*handed_in)
    except DelveError as refusal:
        return (refusal.__class__.__name__, vars(refusal))


def spoil(thing):
    """All lists and dicts within are emptied."""
    if isinstance(thing, (tuple, list)):
        for part in thing:
            spoil(part)
    if isinstance(thing, (list, dict)):
        thing.clear()
    if isinstance(thing, list):
        thing.append("spoiled")


def all_asked():
    return [asked(ask, make()) for name, ask, make in CALLS]


class Own(unittest.TestCase):
    def test_each_function_is_among_them(self):
        wanted = {(module, name) for module, names in FUNCTIONS.items() for name in names}
        self.assertEqual({name for name, ask, make in CALLS}, wanted)

    def test_nothing_that_is_handed_in_is_changed(self):
        for name, ask, make in CALLS:
            handed_in = make()
            before = copy.deepcopy(handed_in)
            asked(ask, handed_in)
            self.assertEqual(handed_in, before, name)
            self.assertEqual(repr(handed_in), repr(before), name)

    def test_what_is_done_afterwards_to_what_was_handed_in(self):
        for name, ask, make in CALLS:
            handed_in = make()
            told = asked(ask, handed_in)
            wanted = copy.deepcopy(told)
            spoil(handed_in)
            self.assertEqual(told, wanted, name)
            self.assertEqual(asked(ask, make()), wanted, name)

    def test_what_is_done_to_what_was_told(self):
        for name, ask, make in CALLS:
            handed_in = make()
            before = copy.deepcopy(handed_in)
            told = asked(ask, handed_in)
            wanted = copy.deepcopy(told)
            spoil(told)
            self.assertEqual(handed_in, before, name)
            self.assertEqual(asked(ask, handed_in), wanted, name)

    def test_what_is_asked_later_changes_nothing_that_was_told(self):
        told = all_asked()
        wanted = copy.deepcopy(told)
        self.assertEqual(all_asked(), wanted)
        self.assertEqual(told, wanted)
        spoil(told)
        self.assertEqual(all_asked(), wanted)

    def test_the_same_list_is_never_told_twice(self):
        for name, ask, make in CALLS:
            handed_in = make()
            one, other = lists_in(asked(ask, handed_in)), lists_in(asked(ask, handed_in))
            for part in one:
                self.assertFalse(any(part is another for another in other + lists_in(handed_in)), name)


def lists_in(thing):
    if not isinstance(thing, (tuple, list)):
        return []
    return ([thing] if isinstance(thing, list) else []) + [part for within in thing for part in lists_in(within)]


class Objects(unittest.TestCase):
    def test_each_class_is_among_them(self):
        self.assertEqual(set(CLASSES), {"gates", "deeds", "kept", "desk"})

    def test_gates(self):
        for gate in (gates.Plain(), gates.Door(1), gates.Need(1), gates.Bar(1), gates.Wade(3, 1), gates.Float(3)):
            held = [0, 1] + [0] * 10
            wanted = (gate.lets(held, True, 2, 3), gate.told(), gate.text())
            self.assertEqual(held, [0, 1] + [0] * 10)
            held.clear()
            self.assertEqual((gate.lets([0, 1] + [0] * 10, True, 2, 3), gate.told(), gate.text()), wanted)

    def test_deeds(self):
        made = all_sorts()
        for deed in (deeds.Go(0), deeds.Pull(0), deeds.Take(0), deeds.Turn(1), deeds.Unlock(1)):
            for stand in walks.come(made):
                can = deed.can(made, stand)
                other = deed.done(made, stand) if can else None
                deed.can(line(2), (0, 0, 0, 0, 0))
                self.assertEqual((deed.can(made, stand), deed.done(made, stand) if can else None), (can, other))
        self.assertEqual(made, all_sorts())

    def test_kept(self):
        made = all_sorts()
        kept = Kept(made)
        gate = ("wade", 9, 1)
        kept.change(1, gate)
        wanted = copy.deepcopy((kept.cellar(), kept.judged(), kept.needed(), kept.nears()))
        for told in (kept.cellar(), kept.judged(), kept.needed(), kept.nears()):
            spoil(told)
        self.assertEqual((kept.cellar(), kept.judged(), kept.needed(), kept.nears()), wanted)
        self.assertEqual(made, all_sorts())
        self.assertEqual(gate, ("wade", 9, 1))

    def test_desk(self):
        text = texts.shown(all_sorts())
        desk = Desk(text)
        told = [desk.say(row) for row in ("show", "where", "can")]
        desk.say("do take 0")
        desk.say("gate 0 float 0")
        self.assertEqual(told[0], text)
        self.assertEqual(told[1:], ["0 0 0 0 3", "go 0, take 0"])


if __name__ == "__main__":
    unittest.main()
