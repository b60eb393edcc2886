"""What the document promises over the whole program: modules that are tested one by one elsewhere, taken together."""

import random
import unittest

from delve.ahead import fewest, must, needed, word
from delve.back import nears, shut_stands
from delve.deals import count, dealing_of, dealt, good
from delve.deeds import behind, deeds_at
from delve.desk import Desk
from delve.errors import Shut, TooMany, Wide
from delve.folds import folds, round_of, steps
from delve.grow import built
from delve.kept import Kept
from delve.papers import holds, judged, shows_stuck
from delve.plans import plan_of
from delve.stands import start
from delve.texts import read, shown
from delve.walks import come, depths
from tests.growth import grown_plan, plan_needs
from tests.model import (
    full_cellar, just_not_wide, just_wide, made_anew, model_come, model_is_stuck, model_led, model_paper, needy_cellars,
    some_cellar, some_cellars, some_gate,
)


def grown_cellars(many, seed=3):
    """Of plans by their numbers, and of greater ones; none wide."""
    source = random.Random(seed)
    found = []
    while len(found) < many:
        plan = plan_of(source.randrange(86191), 3) if len(found) % 2 else grown_plan(source, source.randrange(4, 12))
        try:
            come(built(plan))
        except (TooMany, Wide):
            continue
        found.append(built(plan))
    return found


def changed_cellars(seed=4):
    """Grown cellars with gates changed, so that one is stuck in many of them."""
    source = random.Random(seed)
    found = []
    for made in grown_cellars(30):
        kept = Kept(made)
        for time in range(3):
            if made[3]:
                try:
                    kept.change(source.randrange(len(made[3])), some_gate(source))
                except Wide:
                    continue
        found.append(kept.cellar())
    return found


def all_cellars():
    return some_cellars(40) + needy_cellars(30) + grown_cellars(30) + changed_cellars()


def or_shut(ask, *handed_in):
    try:
        return ask(*handed_in)
    except Shut as shut:
        return ("Shut", shut.stand)


class Judged(unittest.TestCase):
    def test_never_with_a_paper_by_which_one_comes_to_the_end(self):
        seen = 0
        for made in all_cellars():
            told = judged(made)
            self.assertEqual(told[0] == "stuck", model_is_stuck(made))
            if told[0] == "never":
                seen += 1
                self.assertTrue(holds(made, told[1]))
                lines = {stand: (deed, number) for stand, deed, number in told[1]}
                self.assertEqual(sorted(lines), come(made))
                for stand in lines:
                    here, number = stand, lines[stand][1]
                    while lines[here][0] is not None:
                        here = behind(made, here, lines[here][0])
                        number -= 1
                    self.assertEqual((here[0], number), (made[2], 0))
        self.assertGreater(seen, 30)

    def test_no_paper_of_a_stuck_cellar_is_let_by(self):
        for made in all_cellars():
            if judged(made)[0] == "stuck":
                shut = shut_stands(made)
                lines = all_but_shut(made)
                self.assertFalse(holds(made, lines))
                for number in (0, 1, 2, 300):
                    deeds = {stand: (deeds_at(made, stand) + [None])[0] for stand in shut}
                    self.assertFalse(holds(made, lines + [(stand, deeds[stand], number) for stand in shut]))

    def test_stuck_with_the_shortest_row(self):
        seen = 0
        for made in all_cellars():
            told = judged(made)
            if told[0] == "stuck":
                seen += 1
                self.assertTrue(shows_stuck(made, told[1], told[2]))
                depth = dict(depths(made))
                self.assertEqual(len(told[1]), min(depth[stand] for stand in shut_stands(made)))
                self.assertEqual(told[2], come(made, model_led(made, start(made), told[1])[-1]))
                self.assertEqual({stand for stand in told[2]} - set(shut_stands(made)), set())
        self.assertGreater(seen, 30)

    def test_fewest_deeds_for_each_stand(self):
        for made in all_cellars()[::4]:
            for stand, near in nears(made):
                told = or_shut(fewest, made, stand)
                self.assertEqual(told if near is None else len(told), ("Shut", stand) if near is None else near)


def all_but_shut(made):
    """A paper's lines, but of the shut stands none."""
    near = dict(nears(made))
    lines = []
    for stand, number in near.items():
        if number is not None:
            deeds = [deed for deed in deeds_at(made, stand) if near[behind(made, stand, deed)] == number - 1]
            lines.append((stand, (deeds + [None])[0], number))
    return lines


class Folded(unittest.TestCase):
    def test_nothing_is_lost_and_nothing_added(self):
        for made in all_cellars()[::3]:
            led = [round_of(made, start(made))[0]]
            for here in led:
                led += sorted({other for deed, other in steps(made, here)} - set(led))
            self.assertEqual(sorted(led), folds(made))
            self.assertEqual(sorted(stand for one in led for stand in round_of(made, one)), come(made))


class Dealt(unittest.TestCase):
    def test_good_ones_are_those_whose_end_can_be_come_to(self):
        for made in grown_cellars(6) + needy_cellars(6):
            kinds = [kind for room, kind in made[4]][:2]
            places = list(range(min(made[0], 4)))
            if len(kinds) > len(places):
                continue
            told = good(made, kinds, places)
            for number in range(count(kinds, len(places))):
                one = dealt(made, places, dealing_of(kinds, len(places), number))
                self.assertEqual(number in told, dict(nears(one))[start(one)] is not None)


class Grown(unittest.TestCase):
    def test_never_stuck_and_needs_what_its_plan_has(self):
        for made in grown_cellars(60, 8):
            self.assertEqual(judged(made)[0], "never")
            self.assertTrue(holds(made, model_paper(made)))
            self.assertEqual(needed(made), plan_needs(made))
            self.assertEqual(shut_stands(made), [])

    def test_each_row_to_the_end_has_all_that_is_needed(self):
        source = random.Random(9)
        for made in grown_cellars(20, 9):
            desk = Desk(shown(made))
            done = []
            while desk.say("left") != "0":
                # At random, but most often by the fewest, so that the end is come to.
                stand = tuple(int(number) for number in desk.say("where").split(" "))
                deed = source.choice(deeds_at(made, stand)) if len(done) % 3 == 0 else fewest(made, stand)[0]
                desk.say(f"do {deed[0]} {deed[1]}")
                done.append(deed)
            self.assertEqual([deed for deed in needed(made) if deed not in done], [])


class Guided(unittest.TestCase):
    def guided(self, made, stand):
        """The word is needed from there, and nothing needed comes ahead of it."""
        told = or_shut(word, made, stand)
        wanted = or_shut(needed, made, stand)
        if told is None or told[0] == "Shut":
            self.assertEqual(wanted, [] if told is None else ("Shut", stand))
            return
        self.assertIn(told, wanted)
        for other in wanted:
            self.assertEqual(must(made, other, told, stand)[0], "no")
        self.assertEqual(must(made, told, None, stand)[0], "yes")

    def test_at_each_stand_of_a_play(self):
        source = random.Random(21)
        for made in all_cellars()[::2]:
            desk = Desk(shown(made))
            for time in range(6):
                stand = tuple(int(number) for number in desk.say("where").split(" "))
                self.guided(made, stand)
                told = or_shut(word, made, stand)
                text = "none" if told is None else told if told[0] == "Shut" else f"{told[0]} {told[1]}"
                self.assertEqual(self.said(desk), text)
                can = desk.say("can")
                if can == "none":
                    break
                desk.say("do " + source.choice(can.split(", ")))

    def said(self, desk):
        try:
            return desk.say("word")
        except Shut as shut:
            return ("Shut", shut.stand)


class Changed(unittest.TestCase):
    def test_as_though_made_anew(self):
        source = random.Random(33)
        seen = set()
        for made in all_cellars():
            if not made[3]:
                continue
            kept, desk = Kept(made), Desk(shown(made))
            way, gate = source.randrange(len(made[3])), some_gate(source)
            anew = made_anew(made, way, gate)
            row = " ".join(str(part) for part in ("gate", way) + gate)
            if model_come(anew) is None:
                self.assertRaises(Wide, kept.change, way, gate)
                self.assertRaises(Wide, desk.say, row)
                anew = made
            else:
                self.assertIsNone(kept.change(way, gate))
                self.assertEqual(desk.say(row), "ok")
            self.assertEqual(kept.cellar(), anew)
            self.assertEqual(kept.judged(), judged(anew))
            self.assertEqual(kept.nears(), nears(anew))
            self.assertEqual(or_shut(kept.needed), or_shut(needed, anew))
            self.assertEqual(desk.say("show"), shown(anew))
            new_desk = Desk(shown(anew))
            for asked in ("where", "can", "left", "word", "judge", "needed", "show"):
                self.assertEqual(or_shut(desk.say, asked), or_shut(new_desk.say, asked))
            seen.add(judged(anew)[0])
        self.assertEqual(seen, {"never", "stuck"})


class Written(unittest.TestCase):
    def test_each_cellar_has_just_one_text(self):
        cellars = all_cellars() + [some_cellar(seed) for seed in range(100)] + [full_cellar(), just_wide()]
        texts = {}
        for made in cellars:
            texts.setdefault(shown(made), made)
            self.assertEqual(read(shown(made)), made)
            self.assertEqual(texts[shown(made)], made)
        self.assertEqual(len(texts), len(set(cellars)))

    def test_wide_or_not_it_is_written_and_read(self):
        for made in (just_not_wide(), just_wide(), full_cellar()):
            self.assertEqual(read(shown(made)), made)
        for made in (just_wide(), full_cellar()):
            for asked in (come, depths, folds, nears, shut_stands, judged, needed, fewest, word, Kept):
                self.assertRaises(Wide, asked, made)
            self.assertRaises(Wide, Desk, shown(made))
            self.assertEqual(round_of(made, start(made))[0], start(made))
            self.assertFalse(holds(made, []))
            self.assertFalse(shows_stuck(made, [], []))


if __name__ == "__main__":
    unittest.main()
