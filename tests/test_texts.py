import random
import re
import unittest

from delve.cellars import cellar
from delve.errors import NoText
from delve.grow import built
from delve.texts import read, shown
from tests.growth import all_plans
from tests.model import (
    all_sorts, far_too_wide, first_is_last, full_cellar, just_wide, line, never_to_the_end, some_cellar, some_cellars,
    two_keys_alike,
)

ALL_SORTS = """rooms 5 0 4
bars 0
water 3
way 0 1 plain
way 1 2 door 3
drop 2 0 plain
way 0 2 need 5
way 2 3 bar 1
drop 3 1 wade 2 5
way 3 4 float 4
drop 1 3 door 3
thing 0 3
thing 1 5
lever 2 2
wheel 3 6
wheel 1 1"""

# For each sort of line its letter, its form, and the least and the greatest of its numbers, rooms being N.
N = None
SORTS = (
    ("r", "rooms # # #", ((1, 14), (0, 13), (0, 13))),
    ("b", "bars #", ((0, 255),)),
    ("w", "water #", ((0, 9),)),
    ("W", "(?:way|drop) # # plain", ((0, N), (0, N))),
    ("W", "(?:way|drop) # # (?:door|need) #", ((0, N), (0, N), (0, 11))),
    ("W", "(?:way|drop) # # bar #", ((0, N), (0, N), (0, 7))),
    ("W", "(?:way|drop) # # wade # #", ((0, N), (0, N), (0, 9), (0, 11))),
    ("W", "(?:way|drop) # # float #", ((0, N), (0, N), (0, 9))),
    ("T", "thing # #", ((0, N), (0, 11))),
    ("L", "lever # #", ((0, N), (1, 255))),
    ("H", "wheel # #", ((0, N), (0, 9))),
)
ORDER = re.compile("r(b(wW{0,20}T{0,8}L{0,4}H{0,4})?)?")


def sort_of(row, rooms):
    """The letter of a line that some cellar of so many rooms has; a sign that is none where no cellar has it."""
    for letter, form, ends in SORTS:
        found = re.fullmatch(form.replace("#", "(0|[1-9][0-9]*)"), row)
        if found is not None:
            numbers = [int(part) for part in found.groups()]
            fit = all(least <= number <= (rooms - 1 if most is N else most)
                      for number, (least, most) in zip(numbers, ends))
            if letter == "r":
                fit = fit and max(numbers[1:]) < numbers[0]
            if letter == "W":
                fit = fit and numbers[0] != numbers[1]
            return letter if fit else "?"
    return "?"


def model_line(text):
    """The line that a refusal tells; None where the text is a cellar's."""
    rows = re.split("\n", text)
    found = re.match("rooms ([0-9]{1,2}) ", rows[0])
    rooms = int(found.group(1)) if found else 0
    letters = ""
    for number, row in enumerate(rows):
        letters += sort_of(row, rooms)
        if ORDER.fullmatch(letters) is None:
            return number
    return len(rows) if len(rows) < 3 else None


def texts_of_all_sorts():
    made = [all_sorts(), full_cellar(), two_keys_alike(), line(1), line(14, False), first_is_last()]
    return [shown(one) for one in made]


def with_row(text, number, row):
    rows = text.split("\n")
    return "\n".join(rows[:number] + [row] + rows[number + 1:])


def word_places(text):
    """For each line its number, its words, and the places of the numbers among these."""
    for number, row in enumerate(text.split("\n")):
        words = row.split(" ")
        yield number, words, [place for place, word in enumerate(words) if word.isdigit()]


class Shown(unittest.TestCase):
    def test_by_hand(self):
        self.assertEqual(shown(all_sorts()), ALL_SORTS)
        self.assertEqual(shown(cellar=all_sorts()), ALL_SORTS)
        self.assertEqual(shown(line(1)), "rooms 1 0 0\nbars 0\nwater 0")
        self.assertEqual(shown(line(2)), "rooms 2 0 1\nbars 0\nwater 0\nway 0 1 plain")
        self.assertEqual(shown(line(2, False)), "rooms 2 0 1\nbars 0\nwater 0\ndrop 0 1 plain")
        made = cellar(14, 13, 10, [], [(12, 11), (0, 0)], [(13, 255)], [(10, 9), (0, 0)], 200, 9)
        self.assertEqual(shown(made), "\n".join([
            "rooms 14 13 10", "bars 200", "water 9", "thing 12 11", "thing 0 0", "lever 13 255", "wheel 10 9",
            "wheel 0 0",
        ]))

    def test_each_gate(self):
        for gate, words in (
            (("plain",), "plain"), (("door", 0), "door 0"), (("door", 11), "door 11"), (("need", 10), "need 10"),
            (("bar", 7), "bar 7"), (("wade", 9, 11), "wade 9 11"), (("wade", 0, 1), "wade 0 1"),
            (("float", 9), "float 9"),
        ):
            for back, word in ((True, "way"), (False, "drop")):
                made = cellar(3, 1, 0, [(2, 1, gate, back)])
                text = f"rooms 3 1 0\nbars 0\nwater 0\n{word} 2 1 {words}"
                self.assertEqual(shown(made), text)
                self.assertEqual(read(text), made)

    def test_lines_in_their_order(self):
        rows = shown(full_cellar()).split("\n")
        self.assertEqual(len(rows), 39)
        first_words = [row.split(" ")[0] for row in rows]
        self.assertEqual(first_words[:3], ["rooms", "bars", "water"])
        self.assertEqual(set(first_words[3:23]), {"way", "drop"})
        self.assertEqual(first_words[23:], ["thing"] * 8 + ["lever"] * 4 + ["wheel"] * 4)
        for number, (a, b, gate, back) in enumerate(full_cellar()[3]):
            words = ["way" if back else "drop"] + [str(part) for part in (a, b) + gate]
            self.assertEqual(rows[3 + number], " ".join(words))

    def test_it_is_a_text(self):
        for made in some_cellars():
            self.assertIs(type(shown(made)), str)
            self.assertIsNone(model_line(shown(made)))

    def test_cellars_that_are_wide(self):
        for made in (just_wide(), far_too_wide(), full_cellar()):
            self.assertEqual(read(shown(made)), made)


class ReadAgain(unittest.TestCase):
    def cellars(self):
        grown = [some_cellar(seed) for seed in range(300)] + [built(plan) for plan in all_plans(2)]
        return some_cellars() + grown + [full_cellar(), just_wide(), far_too_wide(), never_to_the_end()]

    def test_each_cellar(self):
        for made in self.cellars():
            self.assertEqual(read(shown(made)), made)
            self.assertEqual(read(text=shown(made)), made)

    def test_of_whole_numbers_truths_texts_and_tuples(self):
        for made in self.cellars():
            self.assertEqual(kinds_of(read(shown(made))), kinds_of(made))

    def test_unlike_cellars_have_unlike_texts(self):
        made = set(self.cellars())
        self.assertEqual(len({shown(one) for one in made}), len(made))

    def test_cellars_that_differ_in_one_thing(self):
        ways = [(0, 1, ("door", 1), True), (1, 2, ("need", 1), True)]
        made = cellar(4, 0, 3, ways, [(0, 1), (1, 1)], [(1, 1)], [(2, 1)])
        parts = list(made)
        others = [
            changed(parts, 0, 5), changed(parts, 1, 1), changed(parts, 2, 2), changed(parts, 7, 1),
            changed(parts, 8, 1),
            changed(parts, 3, made[3][::-1]), changed(parts, 3, made[3][:1]), changed(parts, 3, made[3] * 2),
            changed(parts, 3, ((1, 0, ("door", 1), True), made[3][1])),
            changed(parts, 3, ((0, 1, ("door", 1), False), made[3][1])),
            changed(parts, 3, ((0, 1, ("need", 1), True), made[3][1])),
            changed(parts, 3, ((0, 1, ("door", 2), True), made[3][1])),
            changed(parts, 4, made[4][::-1]), changed(parts, 4, made[4][:1]), changed(parts, 4, ((0, 1), (1, 2))),
            changed(parts, 5, ((1, 2),)), changed(parts, 5, ((2, 1),)), changed(parts, 5, ()),
            changed(parts, 6, ((2, 2),)), changed(parts, 6, ((1, 1),)), changed(parts, 6, made[6] * 2),
        ]
        texts = [shown(one) for one in others + [made]]
        self.assertEqual(len(set(texts)), len(texts))
        self.assertEqual([read(text) for text in texts], others + [made])

    def test_the_greatest_and_the_least_numbers(self):
        head = "rooms 14 13 13\nbars 255\nwater 9\n"
        for row in (
            "way 13 12 plain", "drop 12 13 door 11", "way 0 13 need 11", "way 0 1 bar 7", "way 0 1 wade 9 11",
            "drop 0 1 float 9", "way 1 0 wade 0 0", "thing 13 11", "thing 0 0", "lever 13 255", "lever 0 1",
            "wheel 13 9", "wheel 0 0",
        ):
            self.assertEqual(shown(read(head + row)), head + row)
        self.assertEqual(read("rooms 1 0 0\nbars 0\nwater 0"), (1, 0, 0, (), (), (), (), 0, 0))

    def test_lists_that_are_left_out(self):
        head = "rooms 2 0 1\nbars 0\nwater 0\n"
        for rows in (
            ("way 0 1 plain", "wheel 0 1"), ("thing 0 1", "wheel 0 1"), ("lever 0 1",), ("way 0 1 plain", "lever 1 1"),
        ):
            self.assertEqual(shown(read(head + "\n".join(rows))), head + "\n".join(rows))


def changed(parts, place, part):
    return cellar(*(parts[:place] + [part] + parts[place + 1:]))


def kinds_of(thing):
    return [kinds_of(part) for part in thing] + [tuple] if isinstance(thing, tuple) else type(thing)


class Refused(unittest.TestCase):
    def refused(self, text, number):
        with self.assertRaises(NoText) as caught:
            read(text)
        self.assertIs(type(caught.exception), NoText)
        self.assertEqual(caught.exception.line, number, text)
        self.assertIs(type(caught.exception.line), int)
        self.assertEqual(model_line(text), number, text)

    def read_or_refused(self, text):
        number = model_line(text)
        if number is None:
            self.assertEqual(shown(read(text)), text)
        else:
            self.refused(text, number)

    def each_number(self, forms):
        """At each number of each line of each text, each of the forms of it is refused there."""
        for text in texts_of_all_sorts():
            for number, words, places in word_places(text):
                for place in places:
                    for form in forms(words[place]):
                        row = " ".join(words[:place] + [form] + words[place + 1:])
                        self.refused(with_row(text, number, row), number)

    def each_line(self, forms):
        for text in texts_of_all_sorts():
            for number, words, places in word_places(text):
                for row in forms(words):
                    self.refused(with_row(text, number, row), number)

    def test_numbers_with_a_0_or_a_sign_ahead(self):
        self.each_number(lambda word: ["0" + word, "00" + word, "+" + word, "-" + word, "~" + word, "." + word])

    def test_numbers_left_out(self):
        self.each_number(lambda word: [""])
        for text in texts_of_all_sorts():
            for number, words, places in word_places(text):
                for place in places:
                    self.refused(with_row(text, number, " ".join(words[:place] + words[place + 1:])), number)

    def test_numbers_with_another_sign_in_them(self):
        def forms(word):
            others = [word[0] + "_" + word[0], "1_0", "0x1", "1e0", "1.0", "0.0", "O"]
            return [word + sign for sign in ".,_-+xle/:"] + others
        self.each_number(forms)

    def test_numbers_out_of_their_range(self):
        self.each_number(lambda word: ["256", "999", "1000000", "9" * 40, "1" + "0" * 39, "8" * 39])

    def test_just_beyond_the_range(self):
        for row in ("rooms 0 0 0", "rooms 15 0 0", "rooms 14 14 0", "rooms 14 0 14", "rooms 1 1 0", "rooms 1 0 1"):
            self.refused(row + "\nbars 0\nwater 0", 0)
            self.refused(row, 0)
        self.refused("rooms 3 0 0\nbars 256\nwater 0", 1)
        self.refused("rooms 3 0 0\nbars 0\nwater 10", 2)
        head = "rooms 3 0 0\nbars 0\nwater 0\n"
        for row in (
            "way 3 0 plain", "way 0 3 plain", "drop 3 0 plain", "drop 0 3 plain", "way 0 1 door 12", "way 0 1 need 12",
            "way 0 1 bar 8", "way 0 1 wade 10 0", "way 0 1 wade 0 12", "way 0 1 float 10", "thing 3 0", "thing 0 12",
            "lever 3 1", "lever 0 0", "lever 0 256", "wheel 3 0", "wheel 0 10",
        ):
            self.refused(head + row, 3)
            self.refused(head + "way 0 1 plain\n" + row, 4)

    def test_blanks(self):
        def forms(words):
            row = " ".join(words)
            return [" " + row, row + " ", " ", "  ", row.replace(" ", "\t")] + [
                " ".join(words[:place]) + "  " + " ".join(words[place:]) for place in range(1, len(words))
            ]
        self.each_line(forms)

    def test_no_blank(self):
        def forms(words):
            places = [place for place in range(1, len(words)) if words[place].isalpha()]
            return [" ".join(words[:place]) + " ".join(words[place:]) for place in places] + ["".join(words)]
        self.each_line(forms)

    def test_another_first_word(self):
        others = ("", "room", "roomss", "bar", "bars.", "waters", "ways", "thin", "things", "levers", "wheels", "gate",
                  "0", "plain", "ROOMS", "end")
        self.each_line(lambda words: [" ".join([other] + words[1:]) for other in others])

    def test_a_word_more_or_less(self):
        def forms(words):
            row = " ".join(words)
            return [row + " 0", row + " 1", row + " plain", "0 " + row, words[0] + " " + row, words[0], "",
                    " ".join(words[1:])]
        self.each_line(forms)
        self.each_line(lambda words: [" ".join(words[:place]) for place in range(len(words))])

    def test_great_letters(self):
        self.each_line(lambda words: [" ".join(words).upper(), " ".join(words).capitalize()])
        head = "rooms 3 0 0\nbars 0\nwater 0\n"
        for row in (
            "way 0 1 Plain", "way 0 1 PLAIN", "Way 0 1 plain", "drop 0 1 Door 1", "way 0 1 bAr 1", "wAy 0 1 plain",
        ):
            self.refused(head + row, 3)

    def test_a_way_from_a_room_to_itself(self):
        for rooms in (1, 2, 14):
            for room in range(rooms):
                for word in ("way", "drop"):
                    text = f"rooms {rooms} 0 0\nbars 0\nwater 0\n{word} {room} {room} plain"
                    self.refused(text, 3)
                    self.refused(text + "\nthing 0 0", 3)

    def test_a_gate_that_is_none(self):
        gates = (
            "plain 0", "door", "door 1 1", "need", "need 0 0", "bar", "bar 1 2", "wade", "wade 1", "wade 1 1 1",
            "float", "float 1 1", "gate 1", "doors 1", "doo 1", "plai", "plainn", "1", "1 1", "way", "thing 1",
            "need x", "wade x 1", "wade 1 x", "plain plain", "door 1 plain",
        )
        for text in texts_of_all_sorts():
            for number, words, places in word_places(text):
                if words[0] in ("way", "drop"):
                    for gate in gates:
                        self.refused(with_row(text, number, " ".join(words[:3] + [gate])), number)
                    self.refused(with_row(text, number, " ".join(words[:3])), number)
                    self.refused(with_row(text, number, " ".join(words[:2] + words[3:])), number)

    def test_a_line_left_out(self):
        for text in texts_of_all_sorts():
            rows = text.split("\n")
            for number in range(len(rows)):
                left = rows[:number] + rows[number + 1:]
                self.read_or_refused("\n".join(left))
                if number < 3 and left[number:]:
                    self.refused("\n".join(left), number)
        self.refused("rooms 1 0 0\nbars 0", 2)

    def test_a_line_put_twice(self):
        for text in texts_of_all_sorts():
            rows = text.split("\n")
            for number in range(len(rows)):
                twice = rows[:number + 1] + rows[number:]
                self.read_or_refused("\n".join(twice))
                if number < 3:
                    self.refused("\n".join(twice), number + 1)
                self.read_or_refused("\n".join(rows + [rows[number]]))

    def test_a_line_put_at_another_place(self):
        for text in texts_of_all_sorts():
            rows = text.split("\n")
            for number in range(len(rows)):
                left = rows[:number] + rows[number + 1:]
                for place in range(len(rows)):
                    self.read_or_refused("\n".join(left[:place] + [rows[number]] + left[place:]))

    def test_a_line_behind_one_of_a_later_sort(self):
        head = "rooms 3 0 0\nbars 0\nwater 0"
        rows = ("way 0 1 plain", "thing 0 0", "lever 0 1", "wheel 0 0")
        for first, ahead in enumerate(rows):
            if first > 0:
                self.refused("\n".join([head, ahead, "drop 1 2 plain"]), 4)
            for second, row in enumerate(rows):
                text = "\n".join([head, ahead, row])
                if second < first:
                    self.refused(text, 4)
                    self.refused("\n".join([head, ahead, ahead, row, ahead]), 5)
                else:
                    self.assertEqual(shown(read(text)), text)

    def test_one_line_more_than_may_be(self):
        head = ["rooms 3 0 0", "bars 0", "water 0"]
        for row, most in (
            ("way 0 1 plain", 20), ("drop 1 0 door 1", 20), ("thing 0 1", 8), ("lever 0 1", 4), ("wheel 0 1", 4),
        ):
            self.assertEqual(shown(read("\n".join(head + [row] * most))), "\n".join(head + [row] * most))
            for more in (1, 2, 10):
                self.refused("\n".join(head + [row] * (most + more)), 3 + most)
        self.refused("\n".join(head + ["way 0 1 plain", "drop 0 1 plain"] * 10 + ["way 0 1 plain"]), 23)
        self.refused("\n".join(head + ["way 0 1 plain", "drop 0 1 plain"] * 10 + ["drop 0 1 plain"]), 23)
        full = shown(full_cellar()).split("\n")
        for place in (22, 30, 34, 38):
            self.refused("\n".join(full[:place + 1] + full[place:]), place + 1)
        self.refused("\n".join(head * 20), 3)

    def test_it_ends_too_soon(self):
        self.refused("rooms 1 0 0", 1)
        self.refused("rooms 14 13 0", 1)
        self.refused("rooms 1 0 0\nbars 0", 2)
        self.refused("rooms 14 0 13\nbars 255", 2)
        for text in texts_of_all_sorts():
            rows = text.split("\n")
            for number in range(1, len(rows) + 1):
                ended = "\n".join(rows[:number])
                if number < 3:
                    self.refused(ended, number)
                else:
                    self.assertEqual(shown(read(ended)), ended)

    def test_no_signs_at_all(self):
        self.refused("", 0)
        self.refused("\n", 0)
        self.refused("\n\n\n", 0)
        self.refused(" ", 0)

    def test_empty_lines(self):
        for text in texts_of_all_sorts():
            rows = text.split("\n")
            for number in range(len(rows) + 1):
                self.refused("\n".join(rows[:number] + [""] + rows[number:]), number)
                self.refused("\n".join(rows[:number] + [" "] + rows[number:]), number)
        self.refused("rooms 1 0 0\n", 1)
        self.refused("rooms 1 0 0\nbars 0\n", 2)
        self.refused("rooms 1 0 0\nbars 0\nwater 0\n", 3)

    def test_other_line_ends(self):
        for end in ("\r\n", "\r", "\x0b", "\x0c", "\x1c", "\u2028", ", "):
            text = ALL_SORTS.replace("\n", end)
            with self.assertRaises(NoText) as caught:
                read(text)
            self.assertEqual(caught.exception.line, 0)

    def test_the_first_of_two_bad_lines(self):
        rows = ALL_SORTS.split("\n")
        for first in range(len(rows)):
            for second in range(first, len(rows)):
                bad = [row + " x" if number in (first, second) else row for number, row in enumerate(rows)]
                self.refused("\n".join(bad), first)

    def test_rooms_that_later_lines_have_not(self):
        rows = ALL_SORTS.split("\n")
        self.refused("\n".join(["rooms 4 0 3"] + rows[1:]), 9)
        self.refused("\n".join(["rooms 2 0 1"] + rows[1:]), 4)
        self.refused("\n".join(["rooms 1 0 0"] + rows[1:]), 3)

    def test_one_sign_changed(self):
        source = random.Random(28)
        signs = [chr(number) for number in range(ord(" "), ord("~") + 1)] + ["\n", "0", "1", " "]
        for text in texts_of_all_sorts() + [shown(made) for made in some_cellars(20)]:
            for time in range(80):
                place = source.randrange(len(text) + 1)
                sign = source.choice(signs)
                self.read_or_refused(text[:place] + sign + text[place + 1:])
                self.read_or_refused(text[:place] + sign + text[place:])
                self.read_or_refused(text[:place] + text[place + 1:])

    def test_two_texts_put_together(self):
        texts = texts_of_all_sorts()
        for one in texts:
            for other in texts:
                self.refused(one + "\n" + other, one.count("\n") + 1)
                self.read_or_refused(one + other)

    def test_what_is_refused_leaves_nothing_behind(self):
        for text in texts_of_all_sorts():
            wanted = read(text)
            self.refused(text + "\nwheel", text.count("\n") + 1)
            self.assertEqual(read(text), wanted)


if __name__ == "__main__":
    unittest.main()
