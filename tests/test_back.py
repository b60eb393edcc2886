import unittest

from delve.back import nears, shut_stands
from delve.cellars import cellar
from delve.deeds import behind, deeds_at
from delve.errors import Wide
from delve.walks import come
from tests.model import (
    all_sorts, far_too_wide, first_is_last, just_not_wide, just_wide, line, model_come, model_nears, never_to_the_end,
    some_cellar, some_cellars, two_keys_alike,
)


def one_key_two_doors():
    """The key opens the door to the end, or is used up at another one."""
    return cellar(3, 0, 2, [(0, 1, ("door", 6), True), (0, 2, ("door", 6), False)], [(0, 6)])


class Nears(unittest.TestCase):
    def test_by_hand(self):
        self.assertEqual(nears(one_key_two_doors()), [
            ((0, 0, 0, 0, 0), 3), ((0, 1, 0, 0, 0), 2), ((0, 1, 1, 0, 0), None), ((0, 1, 2, 0, 0), 1),
            ((1, 1, 1, 0, 0), None), ((2, 1, 2, 0, 0), 0),
        ])
        drop = cellar(3, 0, 2, [(0, 1, ("plain",), False), (0, 2, ("plain",), True)])
        self.assertEqual(nears(drop), [((0, 0, 0, 0, 0), 1), ((1, 0, 0, 0, 0), None), ((2, 0, 0, 0, 0), 0)])

    def test_lines(self):
        for rooms in range(1, 15):
            for back in (True, False):
                wanted = [((room, 0, 0, 0, 0), rooms - 1 - room) for room in range(rooms)]
                self.assertEqual(nears(line(rooms, back)), wanted)
                self.assertEqual(shut_stands(line(rooms, back)), [])

    def test_lines_walked_from_the_far_end(self):
        for rooms in range(2, 15):
            made = cellar(rooms, rooms - 1, 0, [(room, room + 1, ("plain",), True) for room in range(rooms - 1)])
            self.assertEqual(nears(made), [((room, 0, 0, 0, 0), room) for room in range(rooms)])

    def test_first_room_is_the_last(self):
        self.assertEqual(nears(first_is_last()), [((1, 0, 0, 0, 0), 0)])
        self.assertEqual(nears(cellar(1, 0, 0, [], [(0, 1)], [(0, 1)], [(0, 1)])), [((0, 0, 0, 0, 0), 0)])
        self.assertEqual(shut_stands(first_is_last()), [])

    def test_last_room_can_not_be_come_to(self):
        for made in (never_to_the_end(), cellar(2, 0, 1, []), cellar(2, 0, 1, [(1, 0, ("plain",), False)])):
            self.assertEqual(nears(made), [(stand, None) for stand in come(made)])
            self.assertEqual(shut_stands(made), come(made))

    def test_just_as_the_model_has_it(self):
        for made in some_cellars(120) + [one_key_two_doors(), just_not_wide()]:
            told = nears(made)
            self.assertEqual(told, model_nears(made))
            self.assertEqual(told, nears(cellar=made))
            self.assertIs(type(told), list)
            self.assertEqual({type(pair) for pair in told}, {tuple})

    def test_each_from_those_to_which_a_deed_leads(self):
        for made in some_cellars():
            told = dict(nears(made))
            self.assertEqual(list(told), come(made))
            for stand, near in told.items():
                self.assertEqual(near == 0, stand[0] == made[2])
                if near != 0:
                    led = [told[behind(made, stand, deed)] for deed in deeds_at(made, stand)]
                    numbers = [number for number in led if number is not None]
                    self.assertEqual(near, min(numbers) + 1 if numbers else None)

    def test_cellars_of_both_sorts_are_among_them(self):
        sorts = {tuple(sorted({near is None for stand, near in nears(made)})) for made in some_cellars(120)}
        self.assertEqual(sorts, {(False,), (True,), (False, True)})


class ShutStands(unittest.TestCase):
    def test_by_hand(self):
        self.assertEqual(shut_stands(one_key_two_doors()), [(0, 1, 1, 0, 0), (1, 1, 1, 0, 0)])
        self.assertEqual(shut_stands(all_sorts()), [])

    def test_those_with_none(self):
        for made in some_cellars(120):
            told = shut_stands(made)
            self.assertIs(type(told), list)
            self.assertEqual(told, [stand for stand, near in model_nears(made) if near is None])
            self.assertEqual(told, sorted(set(told)))
            self.assertEqual(told, shut_stands(cellar=made))


class Both(unittest.TestCase):
    def test_wide_just_where_more_than_300_come(self):
        self.assertEqual(len(nears(just_not_wide())), 300)
        self.assertEqual(shut_stands(just_not_wide()), [])
        for asked in (nears, shut_stands):
            for made in (just_wide(), far_too_wide()):
                with self.assertRaises(Wide) as caught:
                    asked(made)
                self.assertIs(type(caught.exception), Wide)
        for made in [some_cellar(seed) for seed in range(120)]:
            if model_come(made) is None:
                self.assertRaises(Wide, nears, made)
                self.assertRaises(Wide, shut_stands, made)

    def test_wide_though_the_start_is_next_to_the_end_or_shut(self):
        things = [(0, kind) for kind in range(8)]
        for ways in ([(0, 1, ("plain",), True)], [(0, 2, ("plain",), True)]):
            made = cellar(3, 0, 1, ways, things)
            self.assertRaises(Wide, nears, made)
            self.assertRaises(Wide, shut_stands, made)

    def test_the_lists_are_the_askers_own(self):
        made = two_keys_alike()
        for asked in (nears, shut_stands):
            told = asked(made)
            wanted = list(told)
            self.assertNotEqual(wanted, [])
            told.clear()
            self.assertEqual(asked(made), wanted)
            self.assertIsNot(asked(made), asked(made))
        self.assertEqual(made, two_keys_alike())


if __name__ == "__main__":
    unittest.main()
