import unittest

from delve.cellars import cellar
from delve.errors import NoCellar

GREAT = 10 ** 59
PLAIN = ("plain",)
BAD_GATES = (
    (), ("gate",), ("Plain",), ("plain", 0), ("door",), ("door", 12), ("door", -1), ("door", 1, 1),
    ("need", 12), ("need", -1), ("bar", 8), ("bar", -1), ("wade", 1), ("wade", 10, 0), ("wade", 0, 12),
    ("wade", -1, 0), ("wade", 0, -1), ("wade", 0, 0, 0), ("float", 10), ("float", -1), ("float",),
    ("door", GREAT), ("float", GREAT), ("door", True),
)


def good_parts():
    return {
        "rooms": 4,
        "first": 0,
        "last": 3,
        "ways": [(0, 1, PLAIN, True), (1, 2, ("door", 3), False), (2, 3, ("wade", 4, 5), True)],
        "things": [(0, 3), (1, 5), (2, 3)],
        "levers": [(0, 1), (1, 255), (3, 128)],
        "wheels": [(0, 9), (2, 0), (3, 4)],
        "bars": 6,
        "water": 2,
    }


GOOD = (
    4, 0, 3,
    ((0, 1, ("plain",), True), (1, 2, ("door", 3), False), (2, 3, ("wade", 4, 5), True)),
    ((0, 3), (1, 5), (2, 3)),
    ((0, 1), (1, 255), (3, 128)),
    ((0, 9), (2, 0), (3, 4)),
    6, 2,
)


class Good(unittest.TestCase):
    def test_of_lists(self):
        self.assertEqual(cellar(**good_parts()), GOOD)

    def test_of_tuples_and_in_order(self):
        self.assertEqual(cellar(*GOOD), GOOD)
        self.assertEqual(cellar(*good_parts().values()), GOOD)

    def test_told_is_tuples_through_and_through(self):
        made = cellar(**good_parts())
        self.assertIs(type(made), tuple)
        self.assertEqual(len(made), 9)
        for rows in made[3:7]:
            self.assertIs(type(rows), tuple)
            for row in rows:
                self.assertIs(type(row), tuple)
        for way in made[3]:
            self.assertIs(type(way[2]), tuple)
            self.assertIs(type(way[3]), bool)

    def test_left_out_or_none(self):
        empty = (1, 0, 0, (), (), (), (), 0, 0)
        self.assertEqual(cellar(1, 0, 0, []), empty)
        self.assertEqual(cellar(1, 0, 0, ()), empty)
        self.assertEqual(cellar(1, 0, 0, None), empty)
        self.assertEqual(cellar(1, 0, 0, [], None, None, None), empty)
        self.assertEqual(cellar(1, 0, 0, [], things=None, levers=None, wheels=None), empty)
        self.assertEqual(cellar(1, 0, 0, [], [], [], [], 0, 0), empty)

    def test_parts_by_name(self):
        self.assertEqual(cellar(1, 0, 0, [], wheels=[(0, 5)]), (1, 0, 0, (), (), (), ((0, 5),), 0, 0))
        self.assertEqual(cellar(1, 0, 0, [], levers=[(0, 5)]), (1, 0, 0, (), (), ((0, 5),), (), 0, 0))
        self.assertEqual(cellar(1, 0, 0, [], things=[(0, 5)]), (1, 0, 0, (), ((0, 5),), (), (), 0, 0))
        self.assertEqual(cellar(1, 0, 0, [], bars=255), (1, 0, 0, (), (), (), (), 255, 0))
        self.assertEqual(cellar(1, 0, 0, [], water=9), (1, 0, 0, (), (), (), (), 0, 9))

    def test_one_and_fourteen_rooms(self):
        for rooms in range(1, 15):
            for first in (0, rooms - 1):
                for last in (0, rooms - 1):
                    wanted = (rooms, first, last, (), (), (), (), 0, 0)
                    self.assertEqual(cellar(rooms, first, last, []), wanted)

    def test_as_many_as_can_be(self):
        parts = full_parts()
        made = cellar(**parts)
        self.assertEqual([len(rows) for rows in made[3:7]], [20, 8, 4, 4])
        self.assertEqual(list(made[3]), parts["ways"])

    def test_numbers_at_both_ends(self):
        for gate in (("door", 0), ("door", 11), ("need", 0), ("need", 11), ("bar", 0), ("bar", 7),
                     ("wade", 0, 0), ("wade", 9, 11), ("float", 0), ("float", 9)):
            for back in (True, False):
                self.assertEqual(cellar(14, 0, 13, [(13, 0, gate, back)])[3], ((13, 0, gate, back),))
        for room in (0, 13):
            for name, place, numbers in (("things", 4, (0, 11)), ("levers", 5, (1, 255)), ("wheels", 6, (0, 9))):
                for number in numbers:
                    made = cellar(14, 0, 13, [], **{name: [(room, number)]})
                    self.assertEqual(made[place], ((room, number),))

    def test_like_rows_may_stand_twice(self):
        made = cellar(2, 0, 1, [(0, 1, PLAIN, True)] * 3, [(0, 1)] * 2, [(0, 1)] * 2, [(0, 1)] * 2)
        self.assertEqual([len(rows) for rows in made[3:7]], [3, 2, 2, 2])

    def test_made_of_its_own_parts_it_is_the_same(self):
        for parts in (good_parts(), full_parts()):
            made = cellar(**parts)
            self.assertEqual(cellar(*made), made)

    def test_what_is_handed_in_stays_and_may_be_changed(self):
        parts = good_parts()
        made = cellar(**parts)
        self.assertEqual(parts, good_parts())
        for name in ("ways", "things", "levers", "wheels"):
            parts[name][0] = None
            parts[name].append((9, 9))
            parts[name].pop(1)
        self.assertEqual(made, GOOD)


def full_parts():
    return {
        "rooms": 14,
        "first": 13,
        "last": 0,
        "ways": [(room % 14, (room + 1) % 14, ("wade", 9, 11), room % 2 == 0) for room in range(20)],
        "things": [(room, 11) for room in range(8)],
        "levers": [(13, 255)] * 4,
        "wheels": [(13, 9)] * 4,
        "bars": 255,
        "water": 9,
    }


class Refused(unittest.TestCase):
    def assert_refused(self, parts):
        handed = {name: list(part) if isinstance(part, list) else part for name, part in parts.items()}
        with self.assertRaises(NoCellar):
            cellar(**parts)
        self.assertEqual(parts, handed)
        self.assertEqual(cellar(**good_parts()), GOOD)

    def assert_row_refused(self, name, row):
        for place in range(3):
            parts = good_parts()
            parts[name][place] = row
            self.assert_refused(parts)
            parts[name] = tuple(parts[name])
            self.assert_refused(parts)

    def test_numbers_of_the_whole(self):
        bad = {
            "rooms": (0, 15, 16, -1, -GREAT, GREAT, True),
            "first": (4, 5, 13, -1, -GREAT, GREAT, False),
            "last": (4, 5, 13, -1, -GREAT, GREAT, True),
            "bars": (256, 257, -1, -GREAT, GREAT, True),
            "water": (10, 11, -1, -GREAT, GREAT, True),
        }
        for name, numbers in bad.items():
            for number in numbers:
                parts = good_parts()
                parts[name] = number
                self.assert_refused(parts)

    def test_rooms_out_of_range_without_rows(self):
        for rooms in (0, 15, -1, -GREAT, GREAT):
            self.assert_refused({"rooms": rooms, "first": 0, "last": 0, "ways": []})

    def test_ends_of_ways(self):
        for room in (4, 5, 14, -1, -GREAT, GREAT, True):
            self.assert_row_refused("ways", (room, 2, PLAIN, True))
            self.assert_row_refused("ways", (2, room, PLAIN, False))

    def test_ways_from_a_room_to_itself(self):
        for room in range(4):
            for back in (True, False):
                self.assert_row_refused("ways", (room, room, PLAIN, back))

    def test_gates_that_are_none(self):
        for gate in BAD_GATES:
            for back in (True, False):
                self.assert_row_refused("ways", (0, 3, gate, back))

    def test_rooms_of_rows(self):
        for room in (4, 5, 14, -1, -GREAT, GREAT, True):
            for name in ("things", "levers", "wheels"):
                self.assert_row_refused(name, (room, 1))

    def test_numbers_of_rows(self):
        bad = {
            "things": (12, 13, -1, -GREAT, GREAT, True),
            "levers": (0, 256, 257, -1, -GREAT, GREAT, True),
            "wheels": (10, 11, -1, -GREAT, GREAT, True),
        }
        for name, numbers in bad.items():
            for number in numbers:
                self.assert_row_refused(name, (1, number))

    def test_too_many(self):
        full = full_parts()
        for name in ("ways", "things", "levers", "wheels"):
            for more in (1, 2, 380):
                parts = full_parts()
                parts[name] = full[name] + [full[name][0]] * more
                self.assert_refused(parts)
                parts[name] = tuple(parts[name])
                self.assert_refused(parts)


if __name__ == "__main__":
    unittest.main()
