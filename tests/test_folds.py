import unittest

from delve.cellars import cellar
from delve.deeds import behind, deeds_at
from delve.errors import Wide
from delve.folds import fold, folds, round_of, steps
from delve.stands import start
from delve.walks import come
from tests.model import (
    all_sorts, far_too_wide, first_is_last, just_not_wide, just_wide, line, model_come, model_round, model_steps,
    some_cellars, some_stands, two_keys_alike,
)

PLAIN = ("plain",)


def drop_ring():
    """Rooms 4, 2, 5 in a ring of drops; 0 and 1 lead in, 3 is the last, off the ring by a drop."""
    return cellar(
        6, 0, 3,
        [
            (4, 2, PLAIN, False),
            (2, 5, PLAIN, False),
            (5, 4, PLAIN, False),
            (0, 1, PLAIN, True),
            (1, 4, PLAIN, False),
            (5, 3, PLAIN, True),
        ],
        [(2, 7)],
    )


def through_the_last():
    """A ring of which the last room is one: nobody comes round by it."""
    return cellar(3, 0, 1, [(0, 1, PLAIN, False), (1, 2, PLAIN, False), (2, 0, PLAIN, False)])


def gates_in_a_row():
    """From room 0 to each other room by another gate and back."""
    gates = [PLAIN, ("door", 0), ("need", 1), ("bar", 3), ("wade", 4, 2), ("float", 6)]
    ways = [(0, room + 1, gate, True) for room, gate in enumerate(gates)]
    return cellar(8, 0, 7, ways + [(0, 7, PLAIN, True)], [(1, 0), (1, 1), (1, 2)], [(1, 8)], [(1, 2), (1, 5), (1, 9)])


def narrow_cellars():
    return some_cellars() + [drop_ring(), through_the_last()]


def all_cellars():
    return narrow_cellars() + [gates_in_a_row(), just_wide(), far_too_wide()]


def stands_of(made):
    """Stands that come, some of them, and any others."""
    coming = model_come(made) or [start(made)]
    return sorted(coming)[::9] + some_stands(made, 5)


class RoundOf(unittest.TestCase):
    def test_by_hand(self):
        ring = [(2, 0, 0, 0, 0), (4, 0, 0, 0, 0), (5, 0, 0, 0, 0)]
        for stand in ring:
            self.assertEqual(round_of(drop_ring(), stand), ring)
            self.assertEqual(round_of(cellar=drop_ring(), stand=stand), ring)
        for room in (0, 1):
            self.assertEqual(round_of(drop_ring(), (room, 0, 0, 0, 0)), [(0, 0, 0, 0, 0), (1, 0, 0, 0, 0)])
        self.assertEqual(round_of(line(14), (5, 0, 0, 3, 4)), [(room, 0, 0, 3, 4) for room in range(13)])
        self.assertEqual(round_of(line(14, False), (5, 0, 0, 3, 4)), [(5, 0, 0, 3, 4)])

    def test_by_each_gate(self):
        made = gates_in_a_row()
        for others, rooms in (
            ((0, 0, 0, 0), [0, 1, 5]),
            ((0, 0, 0, 4), [0, 1, 5]),
            ((0, 0, 0, 5), [0, 1]),
            ((4, 0, 0, 5), [0, 1, 5]),
            ((0, 0, 0, 6), [0, 1, 6]),
            ((2, 0, 0, 5), [0, 1, 3]),
            ((1, 0, 0, 5), [0, 1]),
            ((1, 2, 0, 5), [0, 1, 2]),
            ((0, 0, 8, 5), [0, 1, 4]),
            ((0, 0, 247, 5), [0, 1]),
            ((7, 2, 255, 9), [0, 1, 2, 3, 4, 5, 6]),
        ):
            for room in range(7):
                wanted = rooms if room in rooms else [room]
                self.assertEqual(round_of(made, (room,) + others), [(other,) + others for other in wanted])

    def test_in_the_last_room_the_stand_alone(self):
        for made in all_cellars():
            for stand in some_stands(made, 3):
                last = (made[2],) + stand[1:]
                self.assertEqual(round_of(made, last), [last])
                self.assertEqual(fold(made, last), last)
                self.assertEqual(steps(made, last), [])

    def test_nobody_comes_round_by_the_last_room(self):
        for room in range(3):
            stand = (room, 0, 0, 0, 0)
            self.assertEqual(round_of(through_the_last(), stand), [stand])

    def test_just_as_the_model_has_it(self):
        for made in all_cellars():
            for stand in stands_of(made):
                told = round_of(made, stand)
                self.assertEqual(told, model_round(made, stand))
                self.assertIs(type(told), list)
                self.assertIn(stand, told)

    def test_the_same_of_each_stand_in_it(self):
        for made in all_cellars():
            for stand in stands_of(made):
                told = round_of(made, stand)
                for other in told:
                    self.assertEqual(round_of(made, other), told)
                    self.assertEqual(fold(made, other), told[0])

    def test_the_list_is_the_askers_own(self):
        made = drop_ring()
        told = round_of(made, (2, 0, 0, 0, 0))
        told.clear()
        self.assertEqual(len(round_of(made, (2, 0, 0, 0, 0))), 3)
        self.assertEqual(made, drop_ring())


class Fold(unittest.TestCase):
    def test_by_hand(self):
        self.assertEqual(fold(drop_ring(), (5, 1, 0, 0, 0)), (2, 1, 0, 0, 0))
        self.assertEqual(fold(cellar=drop_ring(), stand=(1, 0, 0, 0, 0)), (0, 0, 0, 0, 0))
        self.assertEqual(fold(line(14), (12, 0, 0, 9, 9)), (0, 0, 0, 9, 9))

    def test_the_least_of_the_round(self):
        for made in all_cellars():
            for stand in stands_of(made):
                self.assertEqual(fold(made, stand), min(model_round(made, stand)))


class Steps(unittest.TestCase):
    def test_by_hand(self):
        made = drop_ring()
        first, ring, taken = (0, 0, 0, 0, 0), (2, 0, 0, 0, 0), (2, 1, 0, 0, 0)
        last = (3, 0, 0, 0, 0)
        self.assertEqual(steps(made, first), [(("go", 4), ring)])
        self.assertEqual(steps(made, ring), [(("go", 5), last), (("take", 0), taken)])
        self.assertEqual(steps(cellar=made, stand=taken), [(("go", 5), (3, 1, 0, 0, 0))])

    def test_one_deed_at_two_stands_of_a_round(self):
        # The door can be unlocked from both sides, and lets both ways then: one step, not two.
        made = cellar(3, 0, 2, [(0, 1, ("need", 1), True), (0, 1, ("door", 1), True)], [(0, 1)])
        self.assertEqual(round_of(made, (0, 1, 0, 0, 0)), [(0, 1, 0, 0, 0), (1, 1, 0, 0, 0)])
        self.assertEqual(steps(made, (0, 1, 0, 0, 0)), [(("unlock", 1), (0, 1, 2, 0, 0))])

    def test_just_as_the_model_has_it(self):
        for made in all_cellars():
            for stand in stands_of(made):
                self.assertEqual(steps(made, stand), model_steps(made, stand))

    def test_sorted_each_once_and_none_to_its_own_fold(self):
        for made in all_cellars():
            for stand in stands_of(made):
                told = steps(made, stand)
                self.assertIs(type(told), list)
                self.assertEqual(told, sorted(set(told)))
                self.assertNotIn(fold(made, stand), [other for deed, other in told])
                for other in round_of(made, stand):
                    self.assertEqual(steps(made, other), told)

    def test_each_is_a_deed_of_the_round(self):
        for made in all_cellars()[::3]:
            for stand in stands_of(made):
                led = [
                    (deed, fold(made, behind(made, here, deed)))
                    for here in round_of(made, stand) for deed in deeds_at(made, here)
                ]
                self.assertEqual(set(steps(made, stand)), {step for step in led if step[1] != fold(made, stand)})

    def test_the_list_is_the_askers_own(self):
        made = all_sorts()
        told = steps(made, start(made))
        wanted = list(told)
        self.assertNotEqual(wanted, [])
        told.clear()
        self.assertEqual(steps(made, start(made)), wanted)
        self.assertEqual(made, all_sorts())


class Folds(unittest.TestCase):
    def test_by_hand(self):
        self.assertEqual(folds(drop_ring()), [
            (0, 0, 0, 0, 0), (2, 0, 0, 0, 0), (2, 1, 0, 0, 0), (3, 0, 0, 0, 0), (3, 1, 0, 0, 0),
        ])
        self.assertEqual(folds(line(1)), [(0, 0, 0, 0, 0)])
        self.assertEqual(folds(line(14)), [(0, 0, 0, 0, 0), (13, 0, 0, 0, 0)])
        self.assertEqual(folds(line(14, False)), [(room, 0, 0, 0, 0) for room in range(14)])
        self.assertEqual(folds(first_is_last()), [(1, 0, 0, 0, 0)])

    def test_just_the_folds_of_the_stands_that_come(self):
        for made in narrow_cellars():
            told = folds(made)
            self.assertIs(type(told), list)
            self.assertEqual(told, sorted({min(model_round(made, stand)) for stand in model_come(made)}))
            self.assertEqual(told, folds(cellar=made))

    def test_by_steps_one_comes_to_just_these(self):
        for made in narrow_cellars() + [just_not_wide()]:
            found = {}
            left = [fold(made, start(made))]
            while left:
                stand = left.pop()
                if stand not in found:
                    found[stand] = True
                    left += [other for deed, other in steps(made, stand)]
            self.assertEqual(sorted(found), folds(made))

    def test_their_rounds_laid_together_are_the_stands_that_come(self):
        for made in narrow_cellars() + [just_not_wide()]:
            laid = [other for stand in folds(made) for other in round_of(made, stand)]
            self.assertEqual(sorted(laid), come(made))

    def test_the_list_is_the_askers_own(self):
        made = two_keys_alike()
        told = folds(made)
        wanted = list(told)
        told.append(told.pop(0))
        self.assertEqual(folds(made), wanted)
        self.assertEqual(made, two_keys_alike())


class IsWide(unittest.TestCase):
    def test_folds_are_refused_where_come_is(self):
        self.assertEqual(len(folds(just_not_wide())), 5 * 2 * 4 + 5 * 4)
        for made in (just_wide(), far_too_wide()):
            with self.assertRaises(Wide) as caught:
                folds(made)
            self.assertIs(type(caught.exception), Wide)

    def test_the_others_are_never_refused_so(self):
        for made in (just_wide(), far_too_wide()):
            for stand in [start(made)] + some_stands(made, 6):
                self.assertEqual(round_of(made, stand), model_round(made, stand))
                self.assertEqual(fold(made, stand), model_round(made, stand)[0])
                self.assertEqual(steps(made, stand), model_steps(made, stand))
        made = far_too_wide()
        self.assertEqual(round_of(made, start(made)), [(room, 0, 0, 0, 0) for room in range(13)])
        self.assertEqual(len(steps(made, start(made))), 1 + 8 + 4 + 4)


if __name__ == "__main__":
    unittest.main()
