import random
import unittest

from delve.cellars import cellar
from delve.deeds import Deed, Go, Pull, Take, Turn, Unlock, behind, deed_of, deeds_at
from delve.errors import DelveError, NoDeed
from delve.stands import held, is_stand, start
from tests.model import WORDS, all_sorts, far_too_wide, model_leads, some_cellars, some_stands, two_keys_alike

GREAT = 10 ** 49 + 7
CLASSES = {"go": Go, "pull": Pull, "take": Take, "turn": Turn, "unlock": Unlock}
NUMBERS = (0, 1, 3, 10, 19, 20, 255, -1, -2, -20, GREAT, -GREAT)
# For each gate stands at room 0 at which it lets and at which it doesn't: taken, opened, bars, water.
# Thing 0 is of kind 4, thing 1 of kind 5, the way with the gate has number 1.
LETTING = (
    (("plain",), ((0, 0, 0, 0), (3, 0, 255, 9)), ()),
    (("door", 4), ((1, 2, 0, 0), (3, 2, 255, 9)), ((0, 0, 0, 0), (3, 0, 255, 9))),
    (("need", 4), ((1, 0, 0, 0), (3, 0, 255, 9)), ((0, 0, 255, 0), (2, 0, 255, 9))),
    (("bar", 2), ((0, 0, 4, 0), (3, 0, 255, 9)), ((0, 0, 0, 0), (3, 0, 251, 9))),
    (("wade", 3, 4), ((0, 0, 0, 3), (2, 0, 0, 0), (1, 0, 0, 4), (1, 0, 0, 9)), ((0, 0, 0, 4), (2, 0, 255, 9))),
    (("float", 3), ((0, 0, 0, 3), (3, 0, 0, 9)), ((0, 0, 0, 2), (3, 0, 255, 0))),
)


def gated(gate, back):
    return cellar(4, 0, 3, [(2, 3, ("plain",), True), (0, 1, gate, back)], [(2, 4), (2, 5)])


def workroom():
    """Room 0 has all sorts of things; room 2 is the last."""
    return cellar(
        3, 0, 2,
        [
            (0, 1, ("plain",), True),
            (1, 0, ("door", 4), True),
            (1, 0, ("door", 4), False),
            (0, 2, ("door", 5), False),
            (2, 0, ("plain",), True),
            (2, 1, ("door", 4), True),
        ],
        [(0, 4), (1, 4), (0, 5), (2, 4)],
        [(0, 6), (1, 255), (2, 1)],
        [(0, 3), (0, 5), (1, 3), (2, 7)],
        bars=3,
        water=3,
    )


class Made(unittest.TestCase):
    def test_the_classes_stand_straight_under_deed(self):
        for word, own in CLASSES.items():
            self.assertEqual(own.__bases__, (Deed,), word)

    def test_deed_of_tells_the_words_own_class_and_no_other(self):
        for own_word in WORDS:
            for number in NUMBERS:
                thing = deed_of((own_word, number))
                self.assertIsInstance(thing, Deed)
                for word, other in CLASSES.items():
                    self.assertEqual(isinstance(thing, other), word == own_word, (own_word, word))

    def test_told_and_text_of_both_makings(self):
        for word, own in CLASSES.items():
            for number in NUMBERS:
                for thing in (deed_of((word, number)), own(number), own(number=number), deed_of(deed=(word, number))):
                    self.assertEqual(thing.told(), (word, number))
                    self.assertIs(type(thing.told()), tuple)
                    sign = "-" if number < 0 else ""
                    self.assertEqual(thing.text(), f"{word} {sign}{abs(number)}")

    def test_texts(self):
        self.assertEqual(Go(0).text(), "go 0")
        self.assertEqual(Pull(3).text(), "pull 3")
        self.assertEqual(Take(-1).text(), "take -1")
        self.assertEqual(Turn(-20).text(), "turn -20")
        self.assertEqual(Unlock(19).text(), "unlock 19")

    def test_the_class_makes_a_like_one(self):
        for made in (workroom(), all_sorts()):
            for stand in [start(made)] + some_stands(made):
                for word, own in CLASSES.items():
                    for number in range(-1, 9):
                        one, other = own(number), deed_of((word, number))
                        self.assertIs(one.can(made, stand), other.can(made, stand))
                        if one.can(made, stand):
                            self.assertEqual(one.done(made, stand), other.done(made, stand))


class Can(unittest.TestCase):
    def assert_can(self, wanted, made, stand, word, number):
        self.assertIs(deed_of((word, number)).can(made, stand), wanted, (made, stand, word, number))
        self.assertEqual((word, number) in deeds_at(made, stand), wanted, (made, stand, word, number))

    def test_go_at_both_ends_of_a_way(self):
        for gate, letting, shut in LETTING:
            for back in (True, False):
                for others in letting:
                    made = gated(gate, back)
                    self.assert_can(True, made, (0,) + others, "go", 1)
                    self.assert_can(back, made, (1,) + others, "go", 1)
                    self.assert_can(False, made, (2,) + others, "go", 1)
                    self.assert_can(False, made, (3,) + others, "go", 1)

    def test_go_where_the_gate_does_not_let(self):
        for gate, letting, shut in LETTING:
            for back in (True, False):
                for others in shut:
                    for room in range(4):
                        self.assert_can(False, gated(gate, back), (room,) + others, "go", 1)

    def test_go_by_a_door_looks_at_its_own_way(self):
        made = workroom()
        self.assert_can(True, made, (1, 1, 0b10, 0, 0), "go", 1)
        self.assert_can(False, made, (1, 1, 0b10, 0, 0), "go", 2)
        self.assert_can(True, made, (1, 1, 0b100, 0, 0), "go", 2)
        self.assert_can(False, made, (1, 1, 0b100, 0, 0), "go", 1)
        self.assert_can(False, made, (0, 1, 0b100, 0, 0), "go", 2)

    def test_need_and_wade_count_what_was_used_up(self):
        for gate in (("need", 4), ("wade", 0, 4)):
            made = cellar(3, 0, 2, [(0, 1, gate, True), (0, 1, ("door", 4), True)], [(0, 4), (0, 4)])
            self.assert_can(True, made, (0, 1, 0, 0, 5), "go", 0)
            self.assert_can(False, made, (0, 1, 2, 0, 5), "go", 0)
            self.assert_can(True, made, (0, 3, 2, 0, 5), "go", 0)

    def test_pull_in_the_levers_room(self):
        for room in range(2):
            for bars in (0, 6, 255):
                self.assert_can(room == 0, workroom(), (room, 0, 0, bars, 0), "pull", 0)
                self.assert_can(room == 1, workroom(), (room, 0, 0, bars, 0), "pull", 1)
                self.assert_can(False, workroom(), (room, 0, 0, bars, 0), "pull", 2)

    def test_take_what_was_not_taken(self):
        for taken in range(16):
            for room in range(2):
                stand = (room, taken, 0, 0, 0)
                self.assert_can(room == 0 and not taken & 1, workroom(), stand, "take", 0)
                self.assert_can(room == 1 and not taken & 2, workroom(), stand, "take", 1)
                self.assert_can(room == 0 and not taken & 4, workroom(), stand, "take", 2)
                self.assert_can(False, workroom(), stand, "take", 3)

    def test_turn_where_the_water_is_elsewhere(self):
        for water in range(10):
            for room in range(2):
                stand = (room, 0, 0, 0, water)
                self.assert_can(room == 0 and water != 3, workroom(), stand, "turn", 0)
                self.assert_can(room == 0 and water != 5, workroom(), stand, "turn", 1)
                self.assert_can(room == 1 and water != 3, workroom(), stand, "turn", 2)
                self.assert_can(False, workroom(), stand, "turn", 3)

    def test_unlock_a_door(self):
        made = workroom()
        for room, taken, opened, way, wanted in (
            (1, 0b0001, 0, 1, True), (0, 0b0001, 0, 1, True),               # at a, at b with back True
            (1, 0b0001, 0, 2, True), (0, 0b0001, 0, 2, False),              # at a, at b with back False
            (1, 0b0000, 0, 1, False), (1, 0b0100, 0, 1, False),             # nothing held, another kind held
            (1, 0b0001, 0b10, 1, False), (1, 0b0011, 0b10, 1, False),       # opened already
            (1, 0b0001, 0b10, 2, False), (1, 0b0011, 0b10, 2, True),        # used up at another door, or one left
            (1, 0b0011, 0b110, 1, False), (0, 0b1111, 0, 0, False),         # another gate than a door
            (0, 0b0100, 0, 3, True), (1, 0b0100, 0, 3, False),              # another kind of door, in another room
            (0, 0b0011, 0, 3, False), (0, 0b0011, 0, 5, False), (1, 0b0011, 0, 5, True),
        ):
            self.assert_can(wanted, made, (room, taken, opened, 0, 0), "unlock", way)

    def test_unlock_no_other_gate_than_a_door(self):
        for gate, letting, shut in LETTING:
            for room in range(4):
                wanted = gate[0] == "door" and room < 2
                self.assert_can(wanted, gated(gate, True), (room, 3, 0, 255, 9), "unlock", 1)

    def test_nothing_in_the_last_room(self):
        for taken, opened, water in ((0, 0, 0), (0b0111, 0, 7), (0b0111, 0b1110, 3)):
            stand = (2, taken, opened, 5, water)
            self.assertTrue(is_stand(workroom(), stand))
            self.assertEqual(deeds_at(workroom(), stand), [])
            for word in WORDS:
                for number in NUMBERS + tuple(range(8)):
                    self.assert_can(False, workroom(), stand, word, number)

    def test_numbers_that_the_cellar_has_nothing_for(self):
        for made in (workroom(), all_sorts(), far_too_wide(), cellar(2, 0, 1, [])):
            sizes = dict(zip(WORDS, (len(made[3]), len(made[5]), len(made[4]), len(made[6]), len(made[3]))))
            for stand in [start(made)] + some_stands(made, 20):
                for word, size in sizes.items():
                    for number in (-1, -2, -size, -size - 1, size, size + 1, GREAT, -GREAT):
                        if number != 0:
                            self.assert_can(False, made, stand, word, number)
                    if size == 0:
                        self.assert_can(False, made, stand, word, 0)

    def test_just_as_the_model_has_it(self):
        for made in some_cellars():
            for stand in [start(made)] + some_stands(made):
                wanted = dict(model_leads(made, stand))
                for word in WORDS:
                    for number in range(-1, 12):
                        can = deed_of((word, number)).can(made, stand)
                        self.assertIs(can, (word, number) in wanted, (made, stand, word, number))


class Done(unittest.TestCase):
    def test_each_word(self):
        made = workroom()
        for stand, deed, wanted in (
            ((0, 1, 2, 3, 4), ("go", 0), (1, 1, 2, 3, 4)),
            ((1, 1, 2, 3, 4), ("go", 0), (0, 1, 2, 3, 4)),
            ((1, 1, 2, 3, 4), ("go", 1), (0, 1, 2, 3, 4)),
            ((0, 1, 2, 3, 4), ("go", 1), (1, 1, 2, 3, 4)),
            ((0, 1, 2, 3, 4), ("go", 4), (2, 1, 2, 3, 4)),
            ((0, 1, 2, 3, 4), ("pull", 0), (0, 1, 2, 5, 4)),
            ((1, 1, 2, 3, 4), ("pull", 1), (1, 1, 2, 252, 4)),
            ((1, 1, 2, 3, 4), ("take", 1), (1, 3, 2, 3, 4)),
            ((0, 1, 2, 3, 4), ("take", 2), (0, 5, 2, 3, 4)),
            ((0, 1, 2, 3, 4), ("turn", 0), (0, 1, 2, 3, 3)),
            ((0, 1, 2, 3, 4), ("turn", 1), (0, 1, 2, 3, 5)),
            ((1, 3, 2, 3, 4), ("unlock", 2), (1, 3, 6, 3, 4)),
            ((0, 7, 2, 3, 4), ("unlock", 3), (0, 7, 10, 3, 4)),
        ):
            self.assertEqual(deed_of(deed).done(made, stand), wanted, (stand, deed))
            self.assertEqual(deed_of(deed).done(cellar=made, stand=stand), wanted)
            self.assertIs(deed_of(deed).can(cellar=made, stand=stand), True)
            self.assertEqual(behind(made, stand, deed), wanted)
            self.assertIs(type(behind(made, stand, deed)), tuple)

    def test_whether_can_was_asked_ahead_or_not(self):
        others = [workroom(), all_sorts(), two_keys_alike()]
        for made in others:
            for stand in [start(made)] + some_stands(made):
                for deed, wanted in model_leads(made, stand):
                    self.assertEqual(deed_of(deed).done(made, stand), wanted)
                    asked = deed_of(deed)
                    self.assertIs(asked.can(made, stand), True)
                    self.assertEqual(asked.done(made, stand), wanted)
                    for other in others:
                        for elsewhere in some_stands(other, 3):
                            asked.can(other, elsewhere)
                            self.assertEqual(asked.done(made, stand), wanted)

    def test_one_object_asked_again_tells_the_same(self):
        made = workroom()
        stands = [start(made)] + some_stands(made, 30)
        for word in WORDS:
            for number in range(-1, 7):
                thing = deed_of((word, number))
                can = [thing.can(made, stand) for stand in stands]
                self.assertEqual([thing.can(made, stand) for stand in reversed(stands)], can[::-1])
                able = [stand for stand, truth in zip(stands, can) if truth]
                done = [thing.done(made, stand) for stand in able]
                self.assertEqual([thing.done(made, stand) for stand in reversed(able)], done[::-1])
                self.assertEqual([thing.can(made, stand) for stand in stands], can)
                self.assertEqual((thing.told(), thing.text()), ((word, number), f"{word} {number}"))


class DeedsAt(unittest.TestCase):
    def test_in_order(self):
        self.assertEqual(
            deeds_at(workroom(), (0, 0b1000, 0, 0, 0)),
            [("go", 0), ("go", 4), ("pull", 0), ("take", 0), ("take", 2), ("turn", 0), ("turn", 1), ("unlock", 1)],
        )
        self.assertEqual(
            deeds_at(workroom(), (1, 0b0001, 0, 0, 3)),
            [("go", 0), ("pull", 1), ("take", 1), ("unlock", 1), ("unlock", 2), ("unlock", 5)],
        )
        self.assertEqual(deeds_at(cellar(2, 0, 1, []), (0, 0, 0, 0, 0)), [])

    def test_by_rising_numbers_beyond_nine(self):
        made = cellar(2, 0, 1, [(0, 1, ("door", 0), True)] * 20, [(0, 0)] * 8, [(0, 1)] * 4, [(0, 1)] * 4)
        wanted = [("pull", n) for n in range(4)] + [("turn", n) for n in range(4)] + [("unlock", n) for n in range(20)]
        self.assertEqual(deeds_at(made, (0, 255, 0, 0, 0)), wanted)
        plain = cellar(2, 0, 1, [(0, 1, ("plain",), True)] * 20, [(0, 0)] * 8)
        wanted = [("go", n) for n in range(20)] + [("take", n) for n in range(8)]
        self.assertEqual(deeds_at(plain, (0, 0, 0, 0, 0)), wanted)

    def test_just_as_the_model_has_it(self):
        for made in some_cellars():
            for stand in [start(made)] + some_stands(made):
                told = deeds_at(made, stand)
                self.assertEqual(told, [deed for deed, other in model_leads(made, stand)])
                self.assertEqual(told, sorted(set(told)))

    def test_another_list_each_time(self):
        made = workroom()
        told = deeds_at(made, start(made))
        wanted = list(told)
        self.assertIs(type(told), list)
        self.assertEqual({type(deed) for deed in told}, {tuple})
        told.clear()
        told.append(("go", 99))
        self.assertEqual(deeds_at(made, start(made)), wanted)
        self.assertEqual(deeds_at(cellar=made, stand=start(made)), wanted)
        self.assertIsNot(deeds_at(made, start(made)), deeds_at(made, start(made)))
        self.assertEqual(made, workroom())


class Behind(unittest.TestCase):
    def test_another_stand_of_the_cellar(self):
        for made in some_cellars():
            for stand in [start(made)] + some_stands(made):
                for deed, wanted in model_leads(made, stand):
                    told = behind(made, stand, deed)
                    self.assertEqual(told, wanted)
                    self.assertEqual(behind(cellar=made, stand=stand, deed=deed), wanted)
                    self.assertNotEqual(told, stand)
                    self.assertTrue(is_stand(made, told))

    def test_else_no_deed(self):
        for made in some_cellars(30):
            for stand in [start(made)] + some_stands(made):
                able = dict(model_leads(made, stand))
                for deed in [(word, number) for word in WORDS for number in (-GREAT, -1, 0, 1, 2, 5, 20, GREAT)]:
                    if deed not in able:
                        with self.assertRaises(NoDeed) as caught:
                            behind(made, stand, deed)
                        self.assertEqual(caught.exception.stand, stand)
                        self.assertEqual(caught.exception.deed, deed)
                        self.assertIsInstance(caught.exception, DelveError)


class Rows(unittest.TestCase):
    """Rows of deeds from the start."""

    def rows(self):
        for seed, made in enumerate(some_cellars() + [far_too_wide(), workroom()]):
            source = random.Random(seed)
            stand = start(made)
            row = [(None, stand)]
            while len(row) < 40 and deeds_at(made, stand):
                deed = source.choice(deeds_at(made, stand))
                stand = behind(made, stand, deed)
                row.append((deed, stand))
            yield made, row

    def test_each_is_a_stand_of_the_cellar(self):
        for made, row in self.rows():
            for deed, stand in row:
                self.assertTrue(is_stand(made, stand), (made, row))

    def test_taken_and_opened_stay(self):
        for made, row in self.rows():
            for one, other in zip(row, row[1:]):
                for part in (1, 2):
                    self.assertEqual(one[1][part] & other[1][part], one[1][part])

    def test_held_are_the_taken_less_the_opened(self):
        for made, row in self.rows():
            counts = [0] * 12
            for deed, stand in row:
                if deed is not None and deed[0] == "take":
                    counts[made[4][deed[1]][1]] += 1
                if deed is not None and deed[0] == "unlock":
                    counts[made[3][deed[1]][2][1]] -= 1
                self.assertEqual(held(made, stand), counts)
                self.assertGreaterEqual(min(counts), 0)

    def test_a_lever_pulled_twice_turns_the_bars_back(self):
        pulled = 0
        for made, row in self.rows():
            for deed, stand in row:
                for word, number in deeds_at(made, stand):
                    if word == "pull":
                        once = behind(made, stand, (word, number))
                        self.assertEqual(once[3], stand[3] ^ made[5][number][1])
                        self.assertEqual(behind(made, once, (word, number)), stand)
                        pulled += 1
        self.assertGreater(pulled, 100)

    def test_a_way_with_back_is_gone_forth_and_back(self):
        forth = 0
        for made, row in self.rows():
            for deed, stand in row:
                for word, number in deeds_at(made, stand):
                    if word == "go" and made[3][number][3]:
                        there = behind(made, stand, (word, number))
                        if there[0] != made[2]:
                            self.assertEqual(behind(made, there, (word, number)), stand)
                            forth += 1
        self.assertGreater(forth, 100)


if __name__ == "__main__":
    unittest.main()
