import unittest

from delve.gates import Bar, Door, Float, Gate, Need, Plain, Wade, gate_of, is_gate

GREAT = 10 ** 59
CLASSES = {"plain": Plain, "door": Door, "need": Need, "bar": Bar, "wade": Wade, "float": Float}
TOPS = {"plain": (), "door": (11,), "need": (11,), "bar": (7,), "wade": (9, 11), "float": (9,)}


def all_gates():
    told = [("plain",)]
    for word in ("door", "need"):
        told += [(word, kind) for kind in range(12)]
    told += [("bar", bar) for bar in range(8)]
    told += [("wade", height, kind) for height in range(10) for kind in range(12)]
    return told + [("float", height) for height in range(10)]


def holding(counts=None):
    held = [0] * 12
    for kind, count in (counts or {}).items():
        held[kind] = count
    return held


class Made(unittest.TestCase):
    def test_the_classes_stand_straight_under_gate(self):
        for word, own in CLASSES.items():
            self.assertEqual(own.__bases__, (Gate,), word)

    def test_gate_of_tells_the_words_own_class_and_no_other(self):
        for gate in all_gates():
            thing = gate_of(gate)
            self.assertIsInstance(thing, Gate)
            for word, other in CLASSES.items():
                self.assertEqual(isinstance(thing, other), word == gate[0], (gate, word))

    def test_the_class_makes_a_like_one(self):
        for gate in all_gates():
            for thing in (gate_of(gate), CLASSES[gate[0]](*gate[1:])):
                self.assertEqual(thing.told(), gate)
                self.assertIs(type(thing.told()), tuple)
                self.assertEqual(thing.text(), " ".join(map(str, gate)))

    def test_arguments_by_name(self):
        self.assertEqual(Door(kind=3).told(), ("door", 3))
        self.assertEqual(Need(kind=4).told(), ("need", 4))
        self.assertEqual(Bar(bar=5).told(), ("bar", 5))
        self.assertEqual(Wade(height=6, kind=7).told(), ("wade", 6, 7))
        self.assertEqual(Float(height=8).told(), ("float", 8))
        self.assertIs(Plain().lets(held=holding(), opened=False, bars=0, water=0), True)
        self.assertIs(is_gate(thing=("plain",)), True)
        self.assertEqual(gate_of(gate=("plain",)).told(), ("plain",))

    def test_texts(self):
        self.assertEqual(gate_of(("plain",)).text(), "plain")
        self.assertEqual(gate_of(("door", 0)).text(), "door 0")
        self.assertEqual(gate_of(("need", 11)).text(), "need 11")
        self.assertEqual(gate_of(("bar", 7)).text(), "bar 7")
        self.assertEqual(gate_of(("wade", 9, 10)).text(), "wade 9 10")
        self.assertEqual(gate_of(("float", 0)).text(), "float 0")


class Lets(unittest.TestCase):
    def assert_lets(self, gate, wanted, held=None, opened=False, bars=0, water=0):
        counts = holding(held)
        kept = list(counts)
        for thing in (gate_of(gate), CLASSES[gate[0]](*gate[1:])):
            for again in range(2):
                answer = thing.lets(counts, opened, bars, water)
                self.assertIs(answer, wanted, (gate, held, opened, bars, water))
        self.assertEqual(counts, kept)

    def test_plain_lets_always(self):
        for water in range(10):
            for bars in (0, 255):
                for opened in (False, True):
                    self.assert_lets(("plain",), True, None, opened, bars, water)
                    self.assert_lets(("plain",), True, {3: 2}, opened, bars, water)

    def test_door_lets_where_it_was_opened(self):
        for kind in range(12):
            for held in ({}, {kind: 1}, {kind: 3}, {(kind + 1) % 12: 2}):
                for bars, water in ((0, 0), (255, 9)):
                    self.assert_lets(("door", kind), True, held, True, bars, water)
                    self.assert_lets(("door", kind), False, held, False, bars, water)

    def test_need_lets_where_one_is_held(self):
        for kind in range(12):
            other = (kind + 1) % 12
            for opened, bars, water in ((False, 0, 0), (True, 255, 9)):
                self.assert_lets(("need", kind), False, {}, opened, bars, water)
                self.assert_lets(("need", kind), False, {other: 1}, opened, bars, water)
                self.assert_lets(("need", kind), False, {other: 5}, opened, bars, water)
                self.assert_lets(("need", kind), True, {kind: 1}, opened, bars, water)
                self.assert_lets(("need", kind), True, {kind: 8}, opened, bars, water)
                self.assert_lets(("need", kind), True, {kind: 1, other: 1}, opened, bars, water)

    def test_bar_lets_where_it_is_up(self):
        for bar in range(8):
            for bars in range(256):
                self.assert_lets(("bar", bar), bool(bars & 1 << bar), None, False, bars)
            self.assert_lets(("bar", bar), False, {bar: 1}, True, 255 - (1 << bar), 9)

    def test_wade_lets_in_low_water_or_with_a_thing(self):
        for height in range(10):
            for water in range(10):
                for kind in (0, 5, 11):
                    other = (kind + 1) % 12
                    low = water <= height
                    self.assert_lets(("wade", height, kind), low, {}, False, 0, water)
                    self.assert_lets(("wade", height, kind), low, {other: 2}, True, 255, water)
                    self.assert_lets(("wade", height, kind), True, {kind: 1}, False, 0, water)
                    self.assert_lets(("wade", height, kind), True, {kind: 4}, True, 255, water)

    def test_float_lets_in_high_water(self):
        for height in range(10):
            for water in range(10):
                for held, opened, bars in (({}, False, 0), ({height: 3}, True, 255)):
                    self.assert_lets(("float", height), water >= height, held, opened, bars, water)


class IsGate(unittest.TestCase):
    def test_true_of_every_gate(self):
        for gate in all_gates():
            self.assertIs(is_gate(gate), True, gate)

    def test_false_of_numbers_out_of_range(self):
        for word, tops in TOPS.items():
            for place, top in enumerate(tops):
                for number in (-1, -GREAT, top + 1, top + 2, GREAT, 2 ** 64):
                    numbers = [0] * len(tops)
                    numbers[place] = number
                    self.assertIs(is_gate((word,) + tuple(numbers)), False, (word, numbers))

    def test_false_of_too_few_or_too_many_numbers(self):
        for word, tops in TOPS.items():
            for size in range(5):
                gate = (word,) + (0,) * size
                self.assertIs(is_gate(gate), size == len(tops), gate)

    def test_false_of_other_words(self):
        for word in TOPS:
            for other in changed_words(word):
                for size in range(3):
                    gate = (other,) + (0,) * size
                    self.assertIs(is_gate(gate), False, gate)
        for other in ("", " ", "gate", "doors", "Door", "DOOR", "door 1", "0"):
            for size in range(3):
                self.assertIs(is_gate((other,) + (0,) * size), False, other)

    def test_false_of_truths_texts_lists_and_of_no_parts(self):
        self.assertIs(is_gate(("door", "1")), False)
        self.assertIs(is_gate(("wade", 1, None)), False)
        self.assertIs(is_gate((1, 1)), False)
        self.assertIs(is_gate(["plain"]), False)
        self.assertIs(is_gate(("door", True)), False)
        self.assertIs(is_gate(("wade", 1, False)), False)
        self.assertIs(is_gate(()), False)


def changed_words(word):
    changed = []
    for place in range(len(word) + 1):
        changed.append(word[:place] + "o" + word[place:])
        changed.append(word[:place] + " " + word[place:])
    for place in range(len(word)):
        changed.append(word[:place] + word[place + 1:])
        changed.append(word[:place] + "x" + word[place + 1:])
        changed.append(word[:place] + word[place].upper() + word[place + 1:])
    return [other for other in changed if other not in TOPS]


if __name__ == "__main__":
    unittest.main()
