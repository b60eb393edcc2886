import unittest

from delve.cellars import cellar
from delve.deeds import behind, deeds_at
from delve.errors import DelveError, NoCellar, NoDeal, NoDeed, NoPlan, NoRow, NoText, Shut, TooMany, Wide
from delve.stands import start
from delve.walks import come, depths
from tests.model import (
    all_sorts, far_too_wide, first_is_last, just_not_wide, just_wide, line, model_come, model_depths, some_cellars,
    some_stands, two_keys_alike,
)

OTHERS = (NoCellar, NoDeed, Shut, NoDeal, TooMany, NoPlan, NoText, NoRow)


def key_and_door():
    """A key in the first room, a door to the last one."""
    return cellar(2, 0, 1, [(0, 1, ("door", 6), False)], [(0, 6)])


class Come(unittest.TestCase):
    def test_by_hand(self):
        self.assertEqual(come(key_and_door()), [(0, 0, 0, 0, 0), (0, 1, 0, 0, 0), (0, 1, 1, 0, 0), (1, 1, 1, 0, 0)])
        self.assertEqual(come(key_and_door(), (0, 1, 0, 0, 0)), [(0, 1, 0, 0, 0), (0, 1, 1, 0, 0), (1, 1, 1, 0, 0)])
        self.assertEqual(come(cellar(1, 0, 0, [])), [(0, 0, 0, 0, 0)])
        self.assertEqual(come(cellar(2, 1, 0, [], bars=9, water=8)), [(1, 0, 0, 9, 8)])
        self.assertEqual(come(line(14)), [(room, 0, 0, 0, 0) for room in range(14)])

    def test_levers_wheels_and_other_bars(self):
        made = cellar(2, 0, 1, [], levers=[(0, 5)], wheels=[(0, 2)], bars=6, water=4)
        self.assertEqual(come(made), [(0, 0, 0, 3, 2), (0, 0, 0, 3, 4), (0, 0, 0, 6, 2), (0, 0, 0, 6, 4)])
        self.assertEqual(come(made, (0, 0, 0, 0, 2)), [(0, 0, 0, 0, 2), (0, 0, 0, 5, 2)])

    def test_from_the_start(self):
        for made in some_cellars(120):
            wanted = sorted(model_come(made))
            for told in (come(made), come(made, None), come(made, start(made)), come(cellar=made, stand=None)):
                self.assertEqual(told, wanted)
                self.assertIs(type(told), list)

    def test_from_any_stand(self):
        for made in some_cellars() + [just_wide(), just_not_wide()]:
            for stand in some_stands(made):
                wanted = model_come(made, stand)
                if wanted is None:
                    self.assertRaises(Wide, come, made, stand)
                else:
                    self.assertEqual(come(made, stand), sorted(wanted))
                    self.assertIn(stand, come(cellar=made, stand=stand))

    def test_in_the_last_room_that_one_alone(self):
        self.assertEqual(come(first_is_last()), [start(first_is_last())])
        for made in some_cellars(30) + [far_too_wide()]:
            for stand in some_stands(made):
                last = (made[2],) + stand[1:]
                self.assertEqual(come(made, last), [last])

    def test_the_list_is_the_askers_own(self):
        made = all_sorts()
        told = come(made)
        wanted = list(told)
        told.reverse()
        told.append((9, 9, 9, 9, 9))
        self.assertEqual(come(made), wanted)
        self.assertIsNot(come(made), come(made))
        self.assertEqual(made, all_sorts())

    def test_other_cellars_between_change_nothing(self):
        cellars = some_cellars(20)
        told = [come(made) for made in cellars]
        self.assertEqual([come(made) for made in reversed(cellars)], told[::-1])


class IsWide(unittest.TestCase):
    def test_300_are_told(self):
        self.assertEqual(come(just_not_wide()), sorted(model_come(just_not_wide())))
        self.assertEqual(len(come(just_not_wide())), 300)
        self.assertEqual(len(depths(just_not_wide())), 300)

    def test_301_are_refused(self):
        self.assertEqual(len(model_come(just_wide(), most=400)), 301)
        for asked in (come, depths):
            self.assertRaises(Wide, asked, just_wide())
            self.assertRaises(Wide, asked, far_too_wide())
        self.assertRaises(Wide, come, just_wide(), None)
        self.assertRaises(Wide, come, just_wide(), start(just_wide()))

    def test_a_stand_told_counts_by_its_own_number(self):
        inside = (0, 0, 0, 0, 0)
        self.assertEqual(len(come(just_wide(), inside)), 300)
        self.assertRaises(Wide, come, just_not_wide(), (8, 0, 0, 0, 0))
        self.assertEqual(len(come(just_not_wide(), inside)), 300)
        self.assertEqual(come(just_wide(), (7, 3, 0, 1, 4)), [(7, 3, 0, 1, 4)])
        # No wheel sets the water to 0 again: where it is at a wheel's height, four heights come, not five.
        self.assertEqual(len(come(just_wide(), (0, 0, 0, 0, 2))), 240)
        # Where both things were taken a fourth of the stands is left.
        self.assertEqual(len(come(just_wide(), (0, 3, 0, 0, 0))), 75)

    def test_all_sorts_of_deeds_are_counted(self):
        only_things = cellar(2, 0, 1, [], [(0, kind) for kind in range(8)])
        self.assertEqual(len(come(only_things)), 256)
        with_lever = cellar(2, 0, 1, [], [(0, kind) for kind in range(8)], [(0, 3)])
        self.assertRaises(Wide, come, with_lever)
        self.assertRaises(Wide, come, cellar(2, 0, 1, [], [(0, kind) for kind in range(8)], None, [(0, 3)]))
        self.assertRaises(Wide, come, cellar(2, 0, 1, [(0, 1, ("plain",), True)], [(0, kind) for kind in range(8)]))

    def test_the_refusal(self):
        for asked in (come, depths):
            with self.assertRaises(Wide) as caught:
                asked(just_wide())
            self.assertIs(type(caught.exception), Wide)
            self.assertIsInstance(caught.exception, DelveError)
            self.assertIsInstance(caught.exception, ValueError)
            for other in OTHERS:
                self.assertNotIsInstance(caught.exception, other)


class Depths(unittest.TestCase):
    def test_by_hand(self):
        self.assertEqual(depths(key_and_door()), [
            ((0, 0, 0, 0, 0), 0), ((0, 1, 0, 0, 0), 1), ((0, 1, 1, 0, 0), 2), ((1, 1, 1, 0, 0), 3),
        ])
        self.assertEqual(depths(line(14)), [((room, 0, 0, 0, 0), room) for room in range(14)])
        self.assertEqual(depths(first_is_last()), [((1, 0, 0, 0, 0), 0)])
        ring = cellar(6, 0, 5, [(room, (room + 1) % 5, ("plain",), True) for room in range(5)])
        self.assertEqual([depth for stand, depth in depths(ring)], [0, 1, 2, 2, 1])

    def test_just_as_the_model_has_it(self):
        for made in some_cellars(120) + [just_not_wide()]:
            told = depths(made)
            self.assertEqual(told, model_depths(made))
            self.assertEqual(told, depths(cellar=made))
            self.assertEqual({type(pair) for pair in told}, {tuple})

    def test_what_deeds_lead_to(self):
        for made in some_cellars():
            told = dict(depths(made))
            self.assertEqual(sorted(told), come(made))
            self.assertEqual([stand for stand, depth in told.items() if depth == 0], [start(made)])
            led = {start(made)}
            for stand, depth in told.items():
                for deed in deeds_at(made, stand):
                    other = behind(made, stand, deed)
                    self.assertLessEqual(told[other], depth + 1)
                    if told[other] == depth + 1:
                        led.add(other)
            self.assertEqual(led, set(told))

    def test_the_list_is_the_askers_own(self):
        made = two_keys_alike()
        told = depths(made)
        wanted = list(told)
        self.assertIs(type(told), list)
        told.clear()
        self.assertEqual(depths(made), wanted)
        self.assertEqual(made, two_keys_alike())


if __name__ == "__main__":
    unittest.main()
