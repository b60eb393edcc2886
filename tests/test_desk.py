import random
import unittest

from delve.cellars import cellar
from delve.desk import Desk
from delve.errors import NoCellar, NoDeed, NoRow, NoText, Shut, Wide
from delve.grow import built
from delve.texts import shown
from tests.growth import END
from tests.model import (
    WORDS, all_sorts, far_too_wide, first_is_last, full_cellar, gate_to_the_wide, just_not_wide, just_wide, line,
    made_anew, model_come, model_depths, model_leads, model_nears, model_needed, model_start, model_word, needy_cellars,
    never_to_the_end, some_cellars, some_gate, two_keys_alike,
)

PLAIN = ("plain",)
ASKED = ("where", "can", "left", "word", "judge", "needed", "show")
KEY_AND_DOOR = "rooms 3 0 2\nbars 0\nwater 0\nway 0 1 plain\ndrop 1 2 door 4\nthing 0 4"

# Rows that are none, whatever the cellar and the stand.
NO_ROWS = [
    "gate ", "gate 0 ", "gate 0  ", "gate 0  1", "gate  plain", "do ", "do go ", "do  0", "where ",
    "", " ", "  ", "x", "0", "ok", "none", "never", "plain", "take 0", "go 0", "go", "where 0", "where where",
    "can can", "left 1", "word 0", "judge 0", "needed 0", "back 0", "back back", "show show", "show 0", "wher",
    "wheres", "cans", "lefts", "words", "judged", "need", "needs", "backs", "shown", "gates", "gate", "gat 0 plain",
    "does go 0", "d go 0", "do", "do go", "do 0", "do go 0 0", "do go 0 1", "do go go 0", "do go 0 go 0", "do walk 0",
    "do end 0", "do do 0", "do g 0", "do gos 0", "do goo 0", "do plain 0", "do none 0", "do where", "do 0 go",
    "do go x", "do go go", "do go -1", "do go +1", "do go 00", "do go 01", "do go -0", "do go +0", "do go 0.",
    "do go 0x0", "do go 1_0", "do go 0,", "do go .0", "do go ~", "do take 00", "do pull 01", "do turn +0",
    "do unlock -1", "gate 0", "gate plain", "gate plain 0", "gate plain plain", "gate 0 0", "gate 0 1 plain",
    "gate 0 0 1", "gate x plain", "gate -1 plain", "gate +0 plain", "gate 00 plain", "gate 01 plain", "gate 0. plain",
    "gate 1_0 plain", "gate 0 Plain", "gate 0 PLAIN", "gate 0 plaiN", "gate 0 pla1n", "gate 0 plain1",
    "gate 0 1plain", "gate 0 pla-in", "gate 0 plain.", "gate 0 ~", "gate 0 Gate", "gate 0 door x", "gate 0 door 01",
    "gate 0 door 00", "gate 0 door -1", "gate 0 door +1", "gate 0 door 1 x", "gate 0 door 1_0", "gate 0 plain plain",
    "gate 0 plain x", "gate 0 wade 1 -1", "gate 0 wade 01 1", "gate 0 wade 1 door", "gate 0 gate x", "gate 0 zzz 01",
    "gate 0 zzz x", "gate 99 plain x", "gate 99 plain 01", "gate 99", "gate 99 Plain", "gate 0 door 12 x",
    "gate 0 plain 0 x", "where\n", "\nwhere", "where\ncan", "do go 0\n", "gate 0 plain\n", "gate 0\nplain",
    "gate 0 door 1\n", "do\tgo\t0", "where\t", "rooms 3 0 2", "way 0 1 plain", "thing 0 4",
]
GOOD_ROWS = ["where", "can", "left", "word", "judge", "needed", "back", "show", "do go 0", "do pull 0", "do take 0",
             "do turn 0", "do unlock 0", "gate 0 plain", "gate 0 door 1", "gate 0 wade 1 1", "gate 0 zzz", "do go 77"]


def deeds_text(deeds):
    return ", ".join(f"{word} {number}" for word, number in deeds) or "none"


def model_judge(made):
    shut = {stand for stand, near in model_nears(made) if near is None}
    depths = [depth for stand, depth in model_depths(made) if stand in shut]
    return f"stuck {min(depths)}" if depths else "never"


def model_answers(made, stand):
    """What each row that asks is answered; where it is refused with Shut, the stand that the refusal tells."""
    near = dict(model_nears(made, stand))[stand]
    word = "none" if near is None else model_word(made, stand)
    needed = model_needed(made, model_start(made))
    return {
        "where": " ".join(str(number) for number in stand),
        "can": deeds_text([deed for deed, other in model_leads(made, stand)]),
        "left": "shut" if near is None else str(near),
        "word": stand if near is None else deeds_text([] if word is None else [word]),
        "judge": model_judge(made),
        "needed": model_start(made) if needed is None else deeds_text(needed),
        "show": shown(made),
    }


def said(desk, row):
    try:
        return desk.say(row)
    except Shut as shut:
        return shut.stand


def answers(desk, rows=ASKED):
    return {row: said(desk, row) for row in rows}


class Case(unittest.TestCase):
    def refused(self, refusal, desk, row):
        with self.assertRaises(refusal) as caught:
            desk.say(row)
        self.assertIs(type(caught.exception), refusal, row)
        return caught.exception


class MadeOfAText(Case):
    def test_no_text(self):
        for text, number in (
            ("", 0), ("rooms 1 0 0", 1), ("rooms 1 0 0\nbars 0", 2), ("rooms 1 0 0\nbars 0\nwater 0\n", 3),
            (KEY_AND_DOOR + "\nthing 0 12", 6), (KEY_AND_DOOR + "\nway 0 1 plain", 6), ("where", 0),
            (KEY_AND_DOOR.replace("bars 0", "bars 00"), 1), (KEY_AND_DOOR.replace("door 4", "doors 4"), 4),
            (shown(far_too_wide()) + " ", shown(far_too_wide()).count("\n")),
        ):
            with self.assertRaises(NoText) as caught:
                Desk(text)
            self.assertIs(type(caught.exception), NoText)
            self.assertEqual(caught.exception.line, number)

    def test_wide(self):
        for made in (just_wide(), far_too_wide(), full_cellar()):
            with self.assertRaises(Wide) as caught:
                Desk(shown(made))
            self.assertIs(type(caught.exception), Wide)
        self.assertEqual(Desk(text=shown(just_not_wide())).say("judge"), "never")

    def test_at_first_one_stands_at_the_start(self):
        for made in some_cellars(30):
            desk = Desk(shown(made))
            self.assertEqual(desk.say("where"), " ".join(str(number) for number in model_start(made)))
            self.assertEqual(desk.say("show"), shown(made))


class Rows(Case):
    def test_by_hand(self):
        desk = Desk(KEY_AND_DOOR)
        for row, answer in (
            ("where", "0 0 0 0 0"), ("can", "go 0, take 0"), ("left", "4"), ("word", "take 0"), ("judge", "never"),
            ("needed", "take 0, unlock 1"), ("show", KEY_AND_DOOR), ("do go 0", "ok"), ("where", "1 0 0 0 0"),
            ("can", "go 0"), ("left", "5"), ("word", "take 0"), ("do go 0", "ok"), ("do take 0", "ok"),
            ("where", "0 1 0 0 0"), ("can", "go 0"), ("left", "3"), ("word", "unlock 1"), ("do go 0", "ok"),
            ("can", "go 0, unlock 1"), ("do unlock 1", "ok"), ("where", "1 1 2 0 0"), ("left", "1"), ("word", "none"),
            ("needed", "take 0, unlock 1"), ("do go 1", "ok"), ("where", "2 1 2 0 0"), ("can", "none"), ("left", "0"),
            ("word", "none"), ("judge", "never"), ("back", "ok"), ("where", "0 0 0 0 0"), ("left", "4"),
            ("show", KEY_AND_DOOR),
        ):
            self.assertEqual(desk.say(row), answer, row)

    def test_levers_and_wheels(self):
        desk = Desk("rooms 2 0 1\nbars 6\nwater 2\nway 0 1 bar 0\nway 0 1 float 9\nlever 0 5\nwheel 0 9\nwheel 0 2")
        for row, answer in (
            ("where", "0 0 0 6 2"), ("can", "pull 0, turn 0"), ("left", "2"), ("word", "none"), ("needed", "none"),
            ("do pull 0", "ok"), ("where", "0 0 0 3 2"), ("can", "go 0, pull 0, turn 0"), ("do pull 0", "ok"),
            ("do turn 0", "ok"), ("where", "0 0 0 6 9"), ("can", "go 1, pull 0, turn 1"), ("do go 1", "ok"),
            ("where", "1 0 0 6 9"), ("can", "none"), ("judge", "never"),
        ):
            self.assertEqual(desk.say(row), answer, row)

    def test_stuck(self):
        desk = Desk("rooms 4 0 3\nbars 0\nwater 0\nway 0 1 plain\ndrop 1 2 plain\nway 1 3 need 0\nthing 0 0")
        for row, answer in (
            ("judge", "stuck 2"), ("needed", "take 0"), ("word", "take 0"), ("do go 0", "ok"), ("do go 1", "ok"),
            ("left", "shut"), ("can", "none"), ("judge", "stuck 2"), ("needed", "take 0"), ("where", "2 0 0 0 0"),
        ):
            self.assertEqual(desk.say(row), answer, row)
        self.assertEqual(self.refused(Shut, desk, "word").stand, (2, 0, 0, 0, 0))
        self.assertEqual(desk.say("back"), "ok")
        self.assertEqual(desk.say("word"), "take 0")

    def test_shut_from_the_start(self):
        desk = Desk("rooms 3 1 2\nbars 5\nwater 3\nway 0 1 plain")
        self.assertEqual(desk.say("judge"), "stuck 0")
        self.assertEqual(desk.say("left"), "shut")
        self.assertEqual(desk.say("do go 0"), "ok")
        self.assertEqual(self.refused(Shut, desk, "word").stand, (0, 0, 0, 5, 3))
        self.assertEqual(self.refused(Shut, desk, "needed").stand, (1, 0, 0, 5, 3))
        self.assertEqual(desk.say("where"), "0 0 0 5 3")

    def test_first_room_is_the_last(self):
        desk = Desk(shown(first_is_last()))
        wanted = ("1 0 0 0 0", "none", "0", "none", "never", "none", shown(first_is_last()))
        self.assertEqual(tuple(desk.say(row) for row in ASKED), wanted)

    def test_the_row_by_its_name(self):
        self.assertEqual(Desk(KEY_AND_DOOR).say(row="where"), "0 0 0 0 0")

    def test_plays(self):
        source = random.Random(29)
        seen = set()
        for made in some_cellars(25) + needy_cellars(15):
            desk = Desk(shown(made))
            stand = model_start(made)
            for time in range(5):
                wanted = model_answers(made, stand)
                rows = source.sample(ASKED, len(ASKED)) + ["where"]
                told = answers(desk, rows)
                self.assertEqual(told, wanted)
                leads = model_leads(made, stand)
                seen |= {type(told["word"]), type(told["needed"]), told["judge"].split(" ")[0], min(len(leads), 2)}
                seen |= {deed[0] for deed, other in leads}
                if not leads:
                    self.assertEqual(desk.say("back"), "ok")
                    stand = model_start(made)
                    continue
                deed, stand = source.choice(leads)
                self.assertEqual(desk.say(f"do {deed[0]} {deed[1]}"), "ok")
        self.assertEqual(seen, {str, tuple, "never", "stuck", 0, 1, 2} | set(WORDS))

    def test_answers_are_texts(self):
        for made in (all_sorts(), two_keys_alike(), line(3)):
            desk = Desk(shown(made))
            for row in ASKED + ("back", "do go 0", "gate 0 float 0", "back"):
                self.assertIs(type(desk.say(row)), str, row)

    def test_the_guide_leads_to_the_end(self):
        for made in (all_sorts(), built(("lock", ("drop", END), ("door", ("bar", END, END), END)))):
            desk = Desk(shown(made))
            done = []
            while desk.say("left") != "0":
                wanted = desk.say("word")
                can = desk.say("can").split(", ")
                if wanted not in can:
                    left = int(desk.say("left"))
                    wanted = next(deed for deed in can if is_nearer(made, desk, deed, left))
                self.assertEqual(desk.say("do " + wanted), "ok")
                done.append(wanted)
            self.assertEqual(desk.say("can"), "none")
            for deed in Desk(shown(made)).say("needed").split(", "):
                self.assertIn(deed, done)


def is_nearer(made, desk, deed, left):
    stand = tuple(int(number) for number in desk.say("where").split(" "))
    word, number = deed.split(" ")
    other = dict(model_leads(made, stand))[(word, int(number))]
    return dict(model_nears(made, other))[other] == left - 1


class NoDeeds(Case):
    def test_each_deed_that_can_not_be_done(self):
        for made in some_cellars(20):
            desk = Desk(shown(made))
            stand = model_start(made)
            for time in range(3):
                can = [deed for deed, other in model_leads(made, stand)]
                wanted = answers(desk)
                for word in WORDS:
                    for number in list(range(9)) + [19, 20, 21, 100, 10 ** 45]:
                        if (word, number) not in can:
                            refusal = self.refused(NoDeed, desk, f"do {word} {number}")
                            self.assertEqual((refusal.stand, refusal.deed), (stand, (word, number)))
                            self.assertIs(type(refusal.deed), tuple)
                            self.assertEqual(desk.say("where"), wanted["where"])
                self.assertEqual(answers(desk), wanted)
                if can:
                    deed, stand = model_leads(made, stand)[-1]
                    desk.say(f"do {deed[0]} {deed[1]}")

    def test_in_the_last_room(self):
        desk = Desk(shown(first_is_last()))
        for row in ("do go 0", "do go 1", "do take 0", "do pull 0", "do turn 0"):
            self.assertEqual(self.refused(NoDeed, desk, row).stand, (1, 0, 0, 0, 0))

    def test_what_was_done_already(self):
        desk = Desk(KEY_AND_DOOR)
        desk.say("do take 0")
        self.assertEqual(self.refused(NoDeed, desk, "do take 0").deed, ("take", 0))
        self.assertEqual(self.refused(NoDeed, desk, "do unlock 1").stand, (0, 1, 0, 0, 0))
        self.assertEqual(desk.say("where"), "0 1 0 0 0")


class Gates(Case):
    def test_by_hand(self):
        desk = Desk(KEY_AND_DOOR)
        desk.say("do take 0")
        desk.say("do go 0")
        desk.say("do unlock 1")
        self.assertEqual(desk.say("gate 1 need 4"), "ok")
        for row, answer in (
            ("where", "0 0 0 0 0"), ("can", "go 0, take 0"), ("left", "3"), ("word", "take 0"), ("judge", "never"),
            ("needed", "take 0"), ("show", KEY_AND_DOOR.replace("door", "need")), ("gate 1 wade 0 11", "ok"),
            ("needed", "none"), ("left", "2"), ("show", KEY_AND_DOOR.replace("door 4", "wade 0 11")),
            ("gate 1 need 5", "ok"), ("judge", "stuck 0"), ("left", "shut"), ("gate 1 plain", "ok"), ("left", "2"),
            ("word", "none"), ("gate 1 door 4", "ok"), ("show", KEY_AND_DOOR), ("gate 0 door 4", "ok"),
            ("left", "shut"),
        ):
            self.assertEqual(desk.say(row), answer, row)
        self.assertEqual(self.refused(Shut, desk, "needed").stand, (0, 0, 0, 0, 0))

    def test_each_gate_and_way(self):
        source = random.Random(2)
        for made in some_cellars(25) + [gate_to_the_wide()] * 8:
            desk = Desk(shown(made))
            for time in range(4):
                if not made[3]:
                    continue
                way, gate = source.randrange(len(made[3])), some_gate(source)
                for step in range(2):
                    can = desk.say("can")
                    if can != "none":
                        desk.say("do " + source.choice(can.split(", ")))
                changed = made_anew(made, way, gate)
                row = " ".join(str(word) for word in ("gate", way) + gate)
                if model_come(changed) is None:
                    where = desk.say("where")
                    self.refused(Wide, desk, row)
                    self.assertEqual((desk.say("where"), desk.say("show")), (where, shown(made)))
                else:
                    self.assertEqual(desk.say(row), "ok")
                    made = changed
                    self.assertEqual(answers(desk), model_answers(made, model_start(made)))

    def test_to_the_gate_that_it_is(self):
        desk = Desk(KEY_AND_DOOR)
        wanted = answers(desk)
        desk.say("do go 0")
        self.assertEqual(desk.say("gate 1 door 4"), "ok")
        self.assertEqual(answers(desk), wanted)

    def test_no_cellar(self):
        for made in (all_sorts(), line(2), gate_to_the_wide()):
            desk = Desk(shown(made))
            if made == all_sorts():
                desk.say("do take 0")
            many = len(made[3])
            wanted = answers(desk)
            for row in (
                "plain 0", "plain 0 0", "door", "door 12", "door 1 1", "need", "need 12", "need 99999", "need 0 0",
                "bar", "bar 8", "bar 1 1", "wade", "wade 1", "wade 10 0", "wade 0 12", "wade 1 1 1", "float",
                "float 10", "float 0 0", "gate", "gate 1", "doors 1", "doo 1", "x", "go 0", "do", "end", "plainn",
                "where", "door 9999999999999999999999999999999999999999", "zzz 1 2 3 4 5 6",
            ):
                for way in (0, many - 1, many, 99, 10 ** 20):
                    self.refused(NoCellar, desk, f"gate {way} {row}")
            for way in (many, many + 1, 20, 99, 10 ** 45):
                self.refused(NoCellar, desk, f"gate {way} plain")
                self.refused(NoCellar, desk, f"gate {way} door 3")
            self.assertEqual(answers(desk), wanted)

    def test_no_ways_at_all(self):
        desk = Desk("rooms 1 0 0\nbars 0\nwater 0")
        self.refused(NoCellar, desk, "gate 0 plain")
        self.refused(NoRow, desk, "gate 0")

    def test_wide(self):
        made = gate_to_the_wide()
        desk = Desk(shown(made))
        wanted = answers(desk)
        for gate in ("plain", "float 0", "wade 0 0"):
            self.refused(Wide, desk, "gate 8 " + gate)
            self.assertEqual(answers(desk), wanted)
        self.assertEqual(desk.say("gate 8 bar 1"), "ok")
        self.assertEqual(desk.say("show"), shown(made_anew(made, 8, ("bar", 1))))

    def test_what_is_refused_does_not_lead_back(self):
        desk = Desk(KEY_AND_DOOR)
        desk.say("do take 0")
        for row in ("gate 0 door 12", "gate 7 plain", "gate 0 zzz"):
            self.refused(NoCellar, desk, row)
            self.assertEqual(desk.say("where"), "0 1 0 0 0")


class NoRows(Case):
    def test_rows_that_are_none(self):
        for made in (all_sorts(), never_to_the_end(), line(3), cellar(1, 0, 0, [])):
            desk = Desk(shown(made))
            if made == all_sorts():
                desk.say("do take 0")
            wanted = answers(desk)
            for row in NO_ROWS:
                self.refused(NoRow, desk, row)
                self.assertEqual(desk.say("where"), wanted["where"])
            self.assertEqual(answers(desk), wanted)

    def test_blanks(self):
        desk = Desk(shown(all_sorts()))
        for row in GOOD_ROWS:
            words = row.split(" ")
            for other in (" " + row, row + " ", "  " + row, row + "  ", row + "\t"):
                self.refused(NoRow, desk, other)
            for place in range(1, len(words)):
                self.refused(NoRow, desk, " ".join(words[:place]) + "  " + " ".join(words[place:]))
                self.refused(NoRow, desk, " ".join(words[:place]) + "\t" + " ".join(words[place:]))
        self.assertEqual(desk.say("where"), "0 0 0 0 3")

    def test_great_letters(self):
        desk = Desk(shown(all_sorts()))
        for row in GOOD_ROWS:
            self.refused(NoRow, desk, row.upper())
            self.refused(NoRow, desk, row.capitalize())
            for place, sign in enumerate(row):
                if sign.islower():
                    self.refused(NoRow, desk, row[:place] + sign.upper() + row[place + 1:])

    def test_a_word_more_or_less(self):
        desk = Desk(shown(all_sorts()))
        for row in GOOD_ROWS:
            for more in ("x", "go", "-1", "01", "plain", ""):
                self.refused(NoRow, desk, row + " " + more)
            self.refused(NoRow, desk, "x " + row)
            words = row.split(" ")
            if len(words) > 1:
                self.refused(NoRow, desk, " ".join(words[1:]))
                self.refused(NoRow, desk, words[0])
                self.refused(NoRow, desk, " ".join(words[:2]))
            else:
                self.refused(NoRow, desk, row + " 0")

    def test_ahead_of_all_other_refusals(self):
        desk = Desk(shown(never_to_the_end()))
        for row in ("word 0", "needed 0", "do go 099", "do go 99 0", "gate 99 plain x", "gate 99 zzz 01"):
            self.refused(NoRow, desk, row)
        self.refused(Shut, desk, "word")
        self.refused(Shut, desk, "needed")
        self.refused(NoDeed, desk, "do go 99")
        self.refused(NoCellar, desk, "gate 99 zzz 1")

    def test_one_sign_changed(self):
        source = random.Random(5)
        signs = [chr(number) for number in range(ord(" "), ord("~") + 1)]
        desk = Desk(KEY_AND_DOOR)
        for row in GOOD_ROWS:
            for time in range(60):
                place = source.randrange(len(row) + 1)
                for other in (row[:place] + source.choice(signs) + row[place + 1:], row[:place] + row[place + 1:]):
                    if not is_row(other):
                        self.refused(NoRow, desk, other)
        self.assertEqual(desk.say("where"), "0 0 0 0 0")


def is_row(row):
    words = row.split(" ")
    numbers = [word == "0" or word.isdigit() and not word.startswith("0") for word in words]
    if words[0] == "do":
        return len(words) == 3 and words[1] in WORDS and numbers[2]
    if words[0] == "gate":
        letters = len(words) > 2 and words[2].isalpha() and words[2].islower()
        return letters and numbers[1] and all(numbers[3:])
    return row in ASKED + ("back",)


class Apart(Case):
    def test_two_desks_side_by_side(self):
        text = shown(two_keys_alike())
        one, other, third = Desk(text), Desk(text), Desk(KEY_AND_DOOR)
        wanted, third_wanted = answers(other), answers(third)
        one.say("do go 0")
        one.say("do take 0")
        self.assertEqual(answers(other), wanted)
        self.assertEqual(answers(third), third_wanted)
        self.assertEqual(one.say("where"), "1 1 0 0 0")
        other.say("gate 3 plain")
        third.say("do take 0")
        self.assertEqual(one.say("where"), "1 1 0 0 0")
        self.assertEqual(one.say("show"), text)
        self.assertEqual(other.say("show"), text.replace("drop 2 3 need 2", "drop 2 3 plain"))
        self.assertEqual(answers(Desk(text)), wanted)

    def test_what_was_asked_between_changes_nothing(self):
        desk = Desk(shown(all_sorts()))
        desk.say("do take 0")
        wanted = answers(desk)
        for time in range(2):
            self.assertEqual(answers(desk, ASKED[::-1]), wanted)
            for row in ("do go 99", "gate 0 zzz", "nothing", ""):
                self.assertRaises(ValueError, desk.say, row)
            self.assertEqual(answers(desk), wanted)


if __name__ == "__main__":
    unittest.main()
