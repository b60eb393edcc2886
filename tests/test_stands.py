import itertools
import unittest

from delve.cellars import cellar
from delve.stands import held, is_stand, start

GREAT = 10 ** 59


def sample():
    return cellar(
        3, 1, 2,
        [
            (0, 1, ("plain",), True),
            (0, 1, ("door", 3), True),
            (1, 2, ("need", 3), True),
            (1, 2, ("door", 3), False),
            (1, 0, ("bar", 1), True),
            (1, 0, ("door", 7), True),
            (1, 0, ("wade", 3, 3), True),
            (1, 0, ("float", 3), True),
        ],
        [(0, 3), (0, 7), (1, 3), (2, 11), (2, 0)],
        bars=5,
        water=4,
    )


THING_KINDS = (3, 7, 3, 11, 0)
DOORS = {1: 3, 3: 3, 5: 7}


def counts_of(taken, opened):
    counts = [0] * 12
    for number, kind in enumerate(THING_KINDS):
        counts[kind] += taken >> number & 1
    for way, kind in DOORS.items():
        counts[kind] -= opened >> way & 1
    return counts


def door_sets():
    for size in range(4):
        for ways in itertools.combinations(DOORS, size):
            yield sum(1 << way for way in ways)


class Start(unittest.TestCase):
    def test_start(self):
        self.assertEqual(start(sample()), (1, 0, 0, 5, 4))
        self.assertEqual(start(cellar(1, 0, 0, [])), (0, 0, 0, 0, 0))
        self.assertEqual(start(cellar(14, 13, 0, [], bars=255, water=9)), (13, 0, 0, 255, 9))
        self.assertIs(type(start(sample())), tuple)
        self.assertEqual(start(cellar=sample()), (1, 0, 0, 5, 4))


class Held(unittest.TestCase):
    def test_nothing_at_the_start(self):
        self.assertEqual(held(sample(), start(sample())), [0] * 12)

    def test_taken_less_opened(self):
        for taken in range(32):
            for opened in door_sets():
                wanted = counts_of(taken, opened)
                if min(wanted) >= 0:
                    self.assertEqual(held(sample(), (0, taken, opened, 0, 0)), wanted)

    def test_room_bars_and_water_do_not_count(self):
        for room, bars, water in itertools.product(range(3), (0, 255), (0, 9)):
            told = held(sample(), (room, 0b00111, 0b1000, bars, water))
            self.assertEqual(told, [0, 0, 0, 1, 0, 0, 0, 1, 0, 0, 0, 0])

    def test_all_eight_things_and_twenty_doors(self):
        full = cellar(2, 0, 1, [(0, 1, ("door", 11), True)] * 20, [(0, 11)] * 8)
        self.assertEqual(held(full, (0, 255, 0, 0, 0)), [0] * 11 + [8])
        self.assertEqual(held(full, (0, 255, 1 << 19 | 1, 0, 0)), [0] * 11 + [6])
        self.assertEqual(held(full, (0, 255, 255, 0, 0)), [0] * 12)

    def test_another_list_each_time(self):
        made = sample()
        stand = (0, 0b101, 0b10, 0, 0)
        told = held(made, stand)
        self.assertIs(type(told), list)
        told[3] = 50
        told.append(1)
        self.assertEqual(held(made, stand), counts_of(0b101, 0b10))
        self.assertEqual(made, sample())
        self.assertIsNot(held(made, stand), held(made, stand))
        self.assertEqual(held(cellar=made, stand=stand), counts_of(0b101, 0b10))


class IsStand(unittest.TestCase):
    def assert_stand(self, wanted, thing, made=None):
        self.assertIs(is_stand(made or sample(), thing), wanted, thing)

    def test_true_of_the_start(self):
        for made in (sample(), cellar(1, 0, 0, []), cellar(14, 13, 0, [], bars=255, water=9)):
            self.assert_stand(True, start(made), made)
        self.assertIs(is_stand(cellar=sample(), thing=(0, 0, 0, 0, 0)), True)

    def test_taken_and_opened(self):
        for taken in range(32):
            for opened in door_sets():
                wanted = min(counts_of(taken, opened)) >= 0
                self.assert_stand(wanted, (0, taken, opened, 0, 0))

    def test_more_opened_than_taken_of_one_kind_alone(self):
        self.assert_stand(True, (0, 0b101, 0b1010, 0, 0))
        self.assert_stand(False, (0, 0b011, 0b1010, 0, 0))
        self.assert_stand(False, (0, 0b11101, 0b100000, 0, 0))
        self.assert_stand(False, (0, 0, 0b10, 0, 0))

    def test_both_ends_of_each_range(self):
        for room, bars, water in itertools.product((0, 2), (0, 255), (0, 9)):
            self.assert_stand(True, (room, 31, 0b101010, bars, water))

    def test_how_many_numbers(self):
        for size in (0, 1, 2, 3, 4, 6, 7):
            self.assert_stand(False, (0,) * size)

    def test_numbers_out_of_range(self):
        bad = {
            0: (3, 4, 14, -1, -GREAT, GREAT, True),
            1: (32, 33, 64, -1, -32, -GREAT, GREAT, True),
            2: (256, 1 << 20, -1, -2, -GREAT, GREAT, False),
            3: (256, 257, -1, -GREAT, GREAT, True),
            4: (10, 11, -1, -GREAT, GREAT, True),
        }
        for place, numbers in bad.items():
            for number in numbers:
                for good in ((1, 0, 0, 5, 4), (0, 31, 0b101010, 5, 4)):
                    thing = good[:place] + (number,) + good[place + 1:]
                    self.assert_stand(False, thing)

    def test_opened_ways_that_are_no_doors(self):
        for way in (0, 2, 4, 6, 7, 8, 19, 20):
            self.assert_stand(False, (0, 31, 1 << way, 0, 0))
            self.assert_stand(False, (0, 31, 1 << way | 0b10, 0, 0))

    def test_without_things_or_doors(self):
        bare = cellar(1, 0, 0, [])
        self.assert_stand(True, (0, 0, 0, 255, 9), bare)
        self.assert_stand(False, (0, 1, 0, 0, 0), bare)
        self.assert_stand(False, (0, 0, 1, 0, 0), bare)
        self.assert_stand(False, (1, 0, 0, 0, 0), bare)

    def test_all_things_and_doors(self):
        full = cellar(2, 0, 1, [(0, 1, ("door", 11), True)] * 20, [(0, 11)] * 8)
        self.assert_stand(True, (0, 255, 255 << 12, 0, 0), full)
        self.assert_stand(False, (0, 255, 511 << 11, 0, 0), full)
        self.assert_stand(False, (0, 256, 0, 0, 0), full)
        self.assert_stand(False, (0, 255, 1 << 20, 0, 0), full)

    def test_nothing_is_changed(self):
        made = sample()
        is_stand(made, (0, 31, 0b101010, 0, 0))
        self.assertEqual(made, sample())


if __name__ == "__main__":
    unittest.main()
