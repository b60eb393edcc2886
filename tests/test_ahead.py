import unittest

from delve.ahead import fewest, must, needed, word
from delve.cellars import cellar
from delve.errors import Shut, Wide
from delve.stands import start
from delve.walks import come
from tests.model import (
    far_too_wide, first_is_last, just_not_wide, just_wide, line, model_come, model_deeds, model_leads, model_led,
    model_must, model_nears, model_needed, model_word, needy_cellars, never_to_the_end, some_cellars, some_stands,
    two_keys_alike,
)

WORDS = ("go", "pull", "take", "turn", "unlock")
STRANGE = [(own, number) for own in WORDS for number in (-1, 20, 10 ** 30)]


def key_and_door():
    """A key in the first room, a door to the last one."""
    return cellar(2, 0, 1, [(0, 1, ("door", 6), False)], [(0, 6)])


def two_keys():
    """Two keys alike, either of which opens the one door."""
    return cellar(2, 0, 1, [(0, 1, ("door", 6), True)], [(0, 6), (0, 6)])


def key_behind_a_bar():
    """The lever lets to the key, the key to the end; a thing and a wheel that nobody needs."""
    ways = [(0, 1, ("bar", 3), True), (0, 2, ("need", 5), True)]
    return cellar(3, 0, 2, ways, [(1, 5), (0, 1)], [(0, 8)], [(0, 4)])


def small_cellars(most=40):
    return [made for made in some_cellars(60) if len(model_come(made)) <= most and made[0] < 9]


def stands_of(made):
    """The start, stands that can come and stands that can't; of none more than 300 come."""
    own = come(made)
    some = [own[len(own) // 2], own[-1]] + some_stands(made, 3)
    return [start(made)] + [stand for stand in some if model_come(made, stand) is not None]


class Must(unittest.TestCase):
    def test_by_hand(self):
        made = key_and_door()
        self.assertEqual(must(made, ("take", 0), ("unlock", 0)), ("yes", [(0, 0, 0, 0, 0)]))
        self.assertEqual(must(made, ("take", 0), None), ("yes", [(0, 0, 0, 0, 0)]))
        self.assertEqual(must(made, ("unlock", 0), None), ("yes", [(0, 0, 0, 0, 0), (0, 1, 0, 0, 0)]))
        self.assertEqual(must(made, ("unlock", 0), ("take", 0)), ("no", [("take", 0)]))
        self.assertEqual(must(made, ("go", 0), ("unlock", 0)), ("no", [("take", 0), ("unlock", 0)]))
        self.assertEqual(must(made, ("go", 0), None), ("yes", come(made)[:3]))

    def test_one_of_two_is_enough(self):
        made = two_keys()
        self.assertEqual(must(made, ("take", 0), None), ("no", [("take", 1), ("unlock", 0), ("go", 0)]))
        self.assertEqual(must(made, ("take", 1), None), ("no", [("take", 0), ("unlock", 0), ("go", 0)]))
        self.assertEqual(must(made, ("unlock", 0), None)[0], "yes")

    def test_a_deed_with_itself(self):
        made = key_behind_a_bar()
        self.assertEqual(must(made, ("pull", 0), ("pull", 0)), ("no", [("pull", 0)]))
        self.assertEqual(must(made, ("take", 0), ("take", 0)), ("no", [("pull", 0), ("go", 0), ("take", 0)]))
        # It can never be done, so it has all deeds ahead of it, itself too.
        self.assertEqual(must(made, ("unlock", 0), ("unlock", 0)), ("yes", come(made)))
        for own in small_cellars():
            for deed in model_deeds(own):
                told = must(own, deed, deed)
                can = any(deed in dict(model_leads(own, stand)) for stand in model_come(own))
                self.assertEqual(told[0], "no" if can else "yes")
                if can:
                    self.assertEqual(told[1].count(deed), 1)
                    self.assertEqual(told[1][-1], deed)
                else:
                    self.assertEqual(told[1], come(own))

    def test_deeds_that_can_never_be_done(self):
        for made in (key_and_door(), key_behind_a_bar(), never_to_the_end()):
            for strange in STRANGE:
                # Ahead of what can never be done is whatever you like.
                for deed in model_deeds(made) + STRANGE[::5]:
                    wanted = ("yes", sorted(model_come(made, without=(deed,))))
                    self.assertEqual(must(made, deed, strange), wanted)
                # What can never be done is ahead of nothing that can.
                for deed in model_deeds(made) + [None]:
                    told = must(made, strange, deed)
                    self.assertEqual(told[0] == "yes", model_must(made, strange, deed, start(made)))
                    self.assertEqual(told == ("yes", come(made)), told[0] == "yes")

    def test_nothing_comes_to_the_last_room(self):
        for made in (never_to_the_end(), cellar(2, 0, 1, [(1, 0, ("plain",), False)], [(0, 3)])):
            for deed in model_deeds(made) + STRANGE:
                self.assertEqual(must(made, deed, None), ("yes", sorted(model_come(made, without=(deed,)))))

    def test_in_the_last_room(self):
        made = first_is_last()
        for deed in model_deeds(made) + STRANGE:
            self.assertEqual(must(made, deed, None), ("no", []))
            for other in model_deeds(made) + STRANGE:
                self.assertEqual(must(made, deed, other), ("yes", [start(made)]))
        self.assertEqual(must(key_and_door(), ("go", 0), None, (1, 1, 1, 0, 0)), ("no", []))

    def test_the_last_deed_to_the_end_counts(self):
        # By the one deed left one comes to the end: it is done at all, though nothing is behind it.
        made = cellar(3, 0, 2, [(0, 1, ("plain",), True), (0, 2, ("plain",), True)])
        self.assertEqual(must(made, ("go", 1), None), ("yes", [(0, 0, 0, 0, 0), (1, 0, 0, 0, 0)]))
        self.assertEqual(must(made, ("go", 0), None), ("no", [("go", 1)]))

    def test_all_pairs(self):
        seen = {"yes": 0, "no": 0}
        for made in small_cellars(30):
            deeds = model_deeds(made)
            for one in deeds + [("go", 21)]:
                for other in deeds + [("take", -1), None]:
                    told = must(made, one, other)
                    self.look_at(made, one, other, start(made), told)
                    seen[told[0]] += 1
        self.assertGreater(min(seen.values()), 500)

    def test_from_other_stands(self):
        for made in small_cellars(25):
            deeds = model_deeds(made)
            for stand in stands_of(made):
                for one, other in zip(deeds, deeds[2:] + [None, None]):
                    self.look_at(made, one, other, stand, must(made, one, other, stand))
                    self.look_at(made, one, other, stand, must(made, one, other, stand=stand))

    def look_at(self, made, one, other, begin, told):
        self.assertIs(type(told), tuple)
        self.assertEqual(len(told), 2)
        self.assertIs(type(told[1]), list)
        self.assertEqual(told[0], "yes" if model_must(made, one, other, begin) else "no")
        if told[0] == "yes":
            self.assertEqual(told[1], sorted(model_come(made, begin, without=(one,))))
            return
        led = model_led(made, begin, told[1])
        self.assertIsNotNone(led)
        if other is None:
            self.assertEqual(led[-1][0], made[2])
            self.assertNotIn(one, told[1])
        else:
            self.assertEqual(told[1][-1], other)
            self.assertNotIn(one, told[1][:-1])

    def test_by_all_rows_of_a_few_deeds(self):
        for made in (key_and_door(), two_keys(), two_keys_alike(), key_behind_a_bar(), line(4)):
            rows = all_rows(made, 5)
            for one in model_deeds(made):
                for other in model_deeds(made):
                    without = [row for row in rows if row[-1:] == [other] and one not in row[:-1]]
                    if without:
                        self.assertEqual(must(made, one, other)[0], "no")
                    if must(made, one, other)[0] == "no" and len(must(made, one, other)[1]) <= 5:
                        self.assertIn(must(made, one, other)[1], rows)
                ends = [row for row in rows if model_led(made, start(made), row)[-1][0] == made[2]]
                if any(one not in row for row in ends):
                    self.assertEqual(must(made, one, None)[0], "no")

    def test_the_start_left_out_and_told(self):
        for made in small_cellars():
            for one in model_deeds(made)[:4]:
                for other in model_deeds(made)[-3:] + [None]:
                    wanted = must(made, one, other)
                    self.assertEqual(must(made, one, other, start(made)), wanted)
                    self.assertEqual(must(made, one, other, None), wanted)
                    self.assertEqual(must(cellar=made, one=one, other=other, stand=None), wanted)

    def test_the_lists_are_the_askers_own(self):
        made = key_behind_a_bar()
        for one, other in ((("pull", 0), None), (("turn", 0), None), (("go", 0), ("take", 0)), (("go", 1), ("go", 0))):
            told = must(made, one, other)
            wanted = (told[0], list(told[1]))
            told[1].clear()
            self.assertEqual(must(made, one, other), wanted)


def all_rows(made, most):
    """All rows of at most so many deeds from the start."""
    rows = [[]]
    for row in rows:
        if len(row) < most:
            stand = model_led(made, start(made), row)[-1]
            rows += [row + [deed] for deed, other in model_leads(made, stand)]
    return rows


class Needed(unittest.TestCase):
    def test_by_hand(self):
        self.assertEqual(needed(key_and_door()), [("take", 0), ("unlock", 0)])
        self.assertEqual(needed(two_keys()), [("unlock", 0)])
        self.assertEqual(needed(key_behind_a_bar()), [("pull", 0), ("take", 0)])
        self.assertEqual(needed(line(9)), [])
        self.assertEqual(needed(first_is_last()), [])
        self.assertEqual(needed(key_and_door(), (0, 1, 0, 0, 0)), [("unlock", 0)])
        self.assertEqual(needed(key_and_door(), (0, 1, 1, 0, 0)), [])
        self.assertEqual(needed(key_and_door(), (1, 1, 1, 0, 0)), [])

    def test_by_words_and_numbers_in_order(self):
        gates = (("door", 1), ("bar", 0), ("float", 5), ("door", 0))
        ways = [(room, room + 1, gate, True) for room, gate in enumerate(gates)]
        made = cellar(5, 0, 4, ways, [(2, 0), (0, 1)], [(1, 1)], [(2, 6)])
        wanted = [("pull", 0), ("take", 0), ("take", 1), ("turn", 0), ("unlock", 0), ("unlock", 3)]
        self.assertEqual(needed(made), wanted)
        self.assertEqual(word(made), ("take", 1))

    def test_as_the_model_has_it(self):
        sizes = set()
        for made in some_cellars(80) + needy_cellars():
            for stand in stands_of(made):
                wanted = model_needed(made, stand)
                if wanted is None:
                    self.assertRaises(Shut, needed, made, stand)
                else:
                    told = needed(made, stand)
                    self.assertIs(type(told), list)
                    self.assertEqual(told, wanted)
                    self.assertEqual(told, sorted(told))
                    self.assertNotIn("go", [own for own, number in told])
                    sizes.add(len(told))
        self.assertGreater(len(sizes), 5)

    def test_those_that_must_be_ahead_of_the_end(self):
        for made in small_cellars():
            if model_needed(made, start(made)) is not None:
                deeds = [deed for deed in model_deeds(made) if deed[0] != "go"]
                self.assertEqual(needed(made), [deed for deed in deeds if must(made, deed, None)[0] == "yes"])


class Fewest(unittest.TestCase):
    def test_by_hand(self):
        self.assertEqual(fewest(key_and_door()), [("take", 0), ("unlock", 0), ("go", 0)])
        self.assertEqual(fewest(key_and_door(), (0, 1, 1, 0, 0)), [("go", 0)])
        self.assertEqual(fewest(line(14)), [("go", way) for way in range(13)])
        self.assertEqual(len(fewest(two_keys())), 3)

    def test_no_deed_in_the_last_room(self):
        self.assertEqual(fewest(first_is_last()), [])
        self.assertEqual(fewest(key_and_door(), (1, 0, 0, 7, 7)), [])
        for made in some_cellars(30) + [far_too_wide()]:
            for stand in some_stands(made):
                last = (made[2],) + stand[1:]
                self.assertEqual(fewest(made, last), [])
                self.assertEqual(needed(made, last), [])
                self.assertIsNone(word(made, last))

    def test_as_short_as_can_be(self):
        for made in some_cellars(80) + needy_cellars(30):
            for stand in stands_of(made):
                near = dict(model_nears(made, stand))[stand]
                if near is None:
                    self.assertRaises(Shut, fewest, made, stand)
                else:
                    told = fewest(made, stand)
                    self.assertIs(type(told), list)
                    self.assertEqual(len(told), near)
                    self.assertEqual(model_led(made, stand, told)[-1][0], made[2])


class Word(unittest.TestCase):
    def test_by_hand(self):
        self.assertEqual(word(key_and_door()), ("take", 0))
        self.assertEqual(word(key_and_door(), (0, 1, 0, 0, 0)), ("unlock", 0))
        self.assertIsNone(word(key_and_door(), (0, 1, 1, 0, 0)))
        self.assertEqual(word(key_behind_a_bar()), ("pull", 0))
        self.assertEqual(word(key_behind_a_bar(), (0, 0, 0, 8, 0)), ("take", 0))
        self.assertIsNone(word(line(5)))
        self.assertIsNone(word(first_is_last()))

    def test_the_first_in_order_where_several_can_be_done(self):
        ways = [(0, 1, ("need", 1), True), (1, 2, ("need", 2), True)]
        made = cellar(3, 0, 2, ways, [(0, 2), (0, 1)])
        self.assertEqual(word(made), ("take", 0))
        # The first of the needed ones lies behind the other.
        made = cellar(3, 0, 2, ways, [(1, 2), (0, 1)])
        self.assertEqual(needed(made), [("take", 0), ("take", 1)])
        self.assertEqual(word(made), ("take", 1))

    def test_not_next_to_where_one_stands(self):
        ways = [(0, 1, ("plain",), True), (1, 2, ("plain",), True), (0, 3, ("need", 4), True)]
        made = cellar(4, 0, 3, ways, [(0, 1), (2, 4)])
        self.assertEqual(word(made), ("take", 1))

    def test_what_is_not_needed_may_come_ahead_of_it(self):
        # Either of two keys opens the door to the lever.
        ways = [(0, 1, ("door", 6), True), (0, 2, ("bar", 0), True)]
        made = cellar(3, 0, 2, ways, [(0, 6), (0, 6)], [(1, 1)])
        self.assertEqual(needed(made), [("pull", 0), ("unlock", 0)])
        self.assertEqual(word(made), ("unlock", 0))

    def test_as_the_model_has_it(self):
        told_words = set()
        for made in some_cellars(80) + needy_cellars():
            for stand in stands_of(made):
                if model_needed(made, stand) is None:
                    self.assertRaises(Shut, word, made, stand)
                else:
                    self.assertEqual(word(made, stand), model_word(made, stand))
                    self.assertEqual(word(made, stand) is None, needed(made, stand) == [])
                    told_words.add((word(made, stand) or (None,))[0])
        self.assertEqual(told_words, {None, "pull", "take", "turn", "unlock"})

    def test_it_is_needed_and_nothing_needed_must_be_ahead_of_it(self):
        for made in small_cellars() + needy_cellars(30):
            if model_needed(made, start(made)):
                self.assertIn(word(made), needed(made))
                for one in needed(made):
                    self.assertEqual(must(made, one, word(made))[0], "no")


class Refused(unittest.TestCase):
    def test_shut_tells_the_stand(self):
        made = cellar(3, 0, 2, [(0, 1, ("plain",), False), (0, 2, ("plain",), True)], bars=4, water=2)
        for asked in (needed, fewest, word):
            self.assertEqual(asked(made) or [], [("go", 1)] if asked is fewest else [])
            for stand in ((1, 0, 0, 4, 2), (1, 0, 0, 77, 0)):
                with self.assertRaises(Shut) as caught:
                    asked(made, stand)
                self.assertEqual(caught.exception.stand, stand)
                self.assertIs(type(caught.exception), Shut)
            for shut in (never_to_the_end(), cellar(2, 0, 1, [], bars=9)):
                for handed_in in ((shut,), (shut, None), (shut, start(shut))):
                    with self.assertRaises(Shut) as caught:
                        asked(*handed_in)
                    self.assertEqual(caught.exception.stand, start(shut))

    def test_wide_by_the_stand_told(self):
        inside, outside = (0, 0, 0, 0, 0), (8, 0, 0, 0, 0)
        for asked in (needed, fewest, word, must_the_end):
            self.assertRaises(Wide, asked, just_wide())
            self.assertRaises(Wide, asked, just_wide(), outside)
            self.assertRaises(Wide, asked, just_not_wide(), outside)
            self.assertRaises(Wide, asked, far_too_wide())
            for made, stand in ((just_wide(), inside), (just_not_wide(), inside), (just_not_wide(), None)):
                self.assertIsNotNone(asked(made, stand))
        self.assertEqual(needed(just_wide(), inside), [("pull", 0)])
        self.assertEqual(word(just_wide(), inside), ("pull", 0))

    def test_wide_counts_deeds_of_all_sorts(self):
        # By all deeds 301 stands come, though far fewer come without the one.
        self.assertRaises(Wide, must, just_wide(), ("go", 8), None)
        self.assertRaises(Wide, must, just_wide(), ("go", 8), ("go", 8))
        self.assertRaises(Wide, must, just_wide(), ("take", 99), ("take", -1))

    def test_wide_ahead_of_shut(self):
        made = cellar(2, 0, 1, [], [(0, kind) for kind in range(8)], [(0, 1)])
        for asked in (needed, fewest, word):
            self.assertRaises(Wide, asked, made)
            self.assertRaises(Shut, asked, made, (0, 1, 0, 0, 0))


class All(unittest.TestCase):
    def test_the_start_left_out_and_told_alike(self):
        for made in some_cellars(60):
            for asked in (needed, fewest, word):
                wanted = answer(asked, made)
                self.assertEqual(answer(asked, made, start(made)), wanted)
                self.assertEqual(answer(asked, made, None), wanted)
                self.assertEqual(answer(lambda own: asked(cellar=own, stand=None), made), wanted)

    def test_the_lists_are_the_askers_own(self):
        made = key_behind_a_bar()
        for asked in (needed, fewest):
            told = asked(made)
            wanted = list(told)
            told.reverse()
            told.append(("go", 7))
            self.assertEqual(asked(made), wanted)
        self.assertEqual(made, key_behind_a_bar())


def must_the_end(made, stand=None):
    return must(made, ("pull", 0), None, stand)


def answer(asked, *handed_in):
    try:
        return asked(*handed_in)
    except Shut as refusal:
        return ("shut", refusal.stand)


if __name__ == "__main__":
    unittest.main()
