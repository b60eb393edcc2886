import itertools
import math
import random
import unittest

from delve.cellars import cellar
from delve.deals import count, dealing_of, dealt, good, number_of
from delve.errors import NoDeal, TooMany, Wide
from delve.walks import come
from tests.model import all_sorts, far_too_wide, just_not_wide, just_wide, line, model_come, some_cellar

# Kinds and sizes of which all dealings can be written down.
SMALL = (
    ([], 0), ([], 1), ([], 5), ([7], 1), ([0], 4), ([11], 4), ([0, 0], 2), ([3, 3], 5), ([3, 5], 2), ([5, 3], 4),
    ([0, 11], 3), ([2, 2, 2], 3), ([2, 2, 2], 6), ([4, 1, 4], 4), ([9, 8, 7], 3), ([9, 8, 7], 5), ([1, 0, 1, 0], 5),
    ([1, 2, 3, 4, 5], 5), ([6, 6, 6, 6, 6, 6, 6, 6], 8), ([6, 6, 6, 6, 6, 6, 6, 6], 9), ([0, 0, 0, 5, 5, 5], 6),
)
LARGE = (
    ([0, 1, 2, 3, 4, 5, 6, 7], 14), ([4, 5, 6, 7, 8, 9, 10, 11], 8), ([1, 1, 2, 2, 3, 3, 4, 4], 14), ([], 14),
    ([5], 14), ([11, 0, 11, 0, 11, 0, 11, 0], 13), ([3, 3, 3, 3, 3, 3, 3, 3], 14), ([10, 2, 10, 7, 10], 12),
)
BAD_KINDS = (
    [0, 1, 2, 3, 4, 5, 6, 7, 8], [0] * 9, [12], [-1], [0, 12], [12, 0], [0, -1, 3], [3, 0, -1], [10 ** 30], [-10 ** 30],
    [1, 2, 3, 4, 5, 6, 7, 12], [1] * 15, [12] * 8,
)
DROPS = [(0, 1, ("plain",), False), (1, 2, ("plain",), False), (2, 3, ("need", 4), False)]


def as_numbers(dealing):
    return [-1 if kind is None else kind for kind in dealing]


def all_dealings(kinds, size):
    """All dealings in order, each once."""
    things = list(kinds) + [None] * (size - len(kinds))
    return sorted(set(itertools.permutations(things)), key=as_numbers)


def by_the_formula(kinds, size):
    found = math.factorial(size) // math.factorial(size - len(kinds))
    for kind in set(kinds):
        found //= math.factorial(kinds.count(kind))
    return found


class Count(unittest.TestCase):
    def test_by_hand(self):
        for kinds, size, wanted in (
            ([], 0, 1), ([], 14, 1), ([3], 1, 1), ([3], 14, 14), ([3, 3], 4, 6), ([3, 4], 4, 12), ([1, 1, 3], 5, 30),
            ([1, 2, 3], 5, 60), ([0] * 8, 8, 1), ([0] * 8, 9, 9), ([0, 1, 2, 3, 4, 5, 6, 7], 14, 121080960),
        ):
            self.assertEqual(count(kinds, size), wanted)
            self.assertEqual(count(kinds=kinds, size=size), wanted)

    def test_by_the_formula_and_by_counting(self):
        for kinds, size in SMALL + LARGE:
            self.assertEqual(count(kinds, size), by_the_formula(kinds, size))
            self.assertIs(type(count(kinds, size)), int)
        for kinds, size in SMALL:
            self.assertEqual(count(kinds, size), len(all_dealings(kinds, size)))

    def test_kinds_in_any_order(self):
        for kinds in itertools.permutations([5, 0, 5, 11]):
            self.assertEqual(count(list(kinds), 6), 180)

    def test_bad_kinds(self):
        for kinds in BAD_KINDS:
            for size in (0, len(kinds), 14):
                self.refused(kinds, size)

    def test_bad_sizes(self):
        for kinds, size in (
            ([], -1), ([], 15), ([], -10 ** 30), ([], 10 ** 30), ([4], 0), ([4], -1), ([4, 4], 1), ([1, 2, 3], 2),
            ([1, 2, 3], -3), ([1] * 8, 7), ([1, 2, 3], 15), ([1, 2], 16),
        ):
            self.refused(kinds, size)

    def refused(self, kinds, size):
        with self.assertRaises(NoDeal) as caught:
            count(kinds, size)
        self.assertIs(type(caught.exception), NoDeal)
        for number in (0, 1, -1):
            self.assertRaises(NoDeal, dealing_of, kinds, size, number)


class Numbers(unittest.TestCase):
    def test_by_hand(self):
        wanted = [
            (None, None, 1, 3), (None, None, 3, 1), (None, 1, None, 3), (None, 1, 3, None), (None, 3, None, 1),
            (None, 3, 1, None), (1, None, None, 3), (1, None, 3, None), (1, 3, None, None), (3, None, None, 1),
            (3, None, 1, None), (3, 1, None, None),
        ]
        self.assertEqual([dealing_of([3, 1], 4, number) for number in range(12)], wanted)
        self.assertEqual([number_of(dealing) for dealing in wanted], list(range(12)))
        self.assertEqual([dealing_of([0], 2, number) for number in (0, 1)], [(None, 0), (0, None)])
        self.assertEqual([dealing_of([2, 0], 2, number) for number in (0, 1)], [(0, 2), (2, 0)])

    def test_each_number_has_just_one_dealing_in_order(self):
        for kinds, size in SMALL:
            wanted = all_dealings(kinds, size)
            told = [dealing_of(kinds, size, number) for number in range(count(kinds, size))]
            self.assertEqual(told, wanted)
            self.assertEqual([number_of(dealing) for dealing in wanted], list(range(len(wanted))))
            self.assertEqual({type(dealing) for dealing in told}, {tuple})

    def test_no_kinds_no_places_all_full(self):
        self.assertEqual(dealing_of([], 0, 0), ())
        self.assertEqual(number_of(()), 0)
        self.assertEqual(dealing_of([], 14, 0), (None,) * 14)
        self.assertEqual(number_of((None,) * 14), 0)
        self.assertEqual(dealing_of([7] * 8, 8, 0), (7,) * 8)
        self.assertEqual(number_of((7,) * 8), 0)
        self.assertEqual(dealing_of([8, 7, 6, 5, 4, 3, 2, 1], 8, 40319), (8, 7, 6, 5, 4, 3, 2, 1))
        self.assertEqual(number_of((8, 7, 6, 5, 4, 3, 2, 1)), 40319)

    def test_many_dealings(self):
        source = random.Random(3)
        for kinds, size in LARGE:
            most = count(kinds, size) - 1
            numbers = {0, most // 3, most // 2, most} | {min(most, number) for number in range(30)}
            numbers |= {max(0, most - number) for number in range(30)}
            numbers |= {source.randrange(most + 1) for time in range(60)}
            told = [dealing_of(kinds, size, number) for number in sorted(numbers)]
            self.assertEqual([number_of(dealing) for dealing in told], sorted(numbers))
            self.assertEqual(told, sorted(set(told), key=as_numbers))
            for dealing in told:
                self.assertEqual(len(dealing), size)
                self.assertEqual(sorted(kind for kind in dealing if kind is not None), sorted(kinds))
            things = sorted(kinds)
            self.assertEqual(told[0], (None,) * (size - len(kinds)) + tuple(things))
            self.assertEqual(told[-1], tuple(things[::-1]) + (None,) * (size - len(kinds)))

    def test_kinds_in_any_order(self):
        wanted = [dealing_of([0, 5, 5], 5, number) for number in range(30)]
        for kinds in ([5, 0, 5], [5, 5, 0]):
            self.assertEqual([dealing_of(kinds=kinds, size=5, number=number) for number in range(30)], wanted)

    def test_bad_numbers(self):
        for kinds, size in SMALL + LARGE:
            most = count(kinds, size)
            for number in (-1, -2, -most, most, most + 1, 2 * most, 10 ** 59, -10 ** 59):
                with self.assertRaises(NoDeal) as caught:
                    dealing_of(kinds, size, number)
                self.assertIs(type(caught.exception), NoDeal)

    def test_bad_dealings(self):
        for dealing in (
            (None,) * 15, (1,) + (None,) * 14, (None,) * 20, tuple(range(9)), (1,) * 9, (1,) * 9 + (None,) * 5,
            (12,), (-1,), (None, 12), (12, None), (None, 3, None, -1), (10 ** 30,), (3,) * 7 + (12,),
            (None,) * 13 + (-5,),
        ):
            with self.assertRaises(NoDeal) as caught:
                number_of(dealing)
            self.assertIs(type(caught.exception), NoDeal)
            self.assertRaises(NoDeal, number_of, dealing=dealing)
        self.assertEqual(number_of((None,) * 6 + (1,) * 8), 0)
        self.assertEqual(number_of((11,) + (None,) * 13), 13)

    def test_the_lists_handed_in_stay(self):
        for kinds in ([5, 0, 5], [3, 2, 1, 0], []):
            before = list(kinds)
            count(kinds, 5)
            dealing_of(kinds, 5, 0)
            self.assertEqual(kinds, before)
        for kinds in BAD_KINDS:
            before = list(kinds)
            self.assertRaises(NoDeal, count, kinds, 9)
            self.assertEqual(kinds, before)


class Dealt(unittest.TestCase):
    def test_by_hand(self):
        made = all_sorts()
        told = dealt(made, [3, 0, 2], (5, None, 1))
        self.assertEqual(told, made[:4] + (((3, 5), (2, 1)),) + made[5:])
        self.assertIs(type(told), tuple)
        self.assertIs(type(told[4]), tuple)
        self.assertEqual(dealt(made, [0, 1], (None, None)), made[:4] + ((),) + made[5:])
        self.assertEqual(dealt(made, [], ()), made[:4] + ((),) + made[5:])
        self.assertEqual(dealt(cellar=made, places=[4], dealing=(11,))[4], ((4, 11),))

    def test_in_the_order_of_the_places(self):
        made = line(14)
        places = [13, 2, 7, 0, 1, 12, 5, 3]
        dealing = (1, 1, 0, 11, 4, 4, 4, 2)
        self.assertEqual(dealt(made, places, dealing)[4], tuple(zip(places, dealing)))
        fourteen = dealt(made, list(range(14)), (None, 3) * 7)
        self.assertEqual(fourteen[4], tuple((room, 3) for room in range(1, 14, 2)))

    def test_it_is_a_cellar_as_made(self):
        source = random.Random(2)
        for seed in range(60):
            made = some_cellar(seed)
            places = source.sample(range(made[0]), source.randrange(made[0] + 1))
            dealing = tuple(source.choice((None, 0, 1, 2, 11)) for place in places)
            things = [(room, kind) for room, kind in zip(places, dealing) if kind is not None]
            wanted = cellar(*made[:3], list(made[3]), things, list(made[5]), list(made[6]), *made[7:])
            self.assertEqual(dealt(made, places, dealing), wanted)

    def test_bad_places(self):
        made = line(5)
        for places in ([0, 0], [3, 1, 3], [5], [-1], [0, 5], [5, 0], [-1, 2], [10 ** 30], [1] * 14, [0, 1, 2, 3, 4, 5]):
            for dealing in ((None,) * len(places), (3,) + (None,) * (len(places) - 1)):
                self.refused(made, places, dealing)
        self.refused(line(14), list(range(14)) + [0], (None,) * 15)

    def test_a_place_more_or_less(self):
        made = line(5)
        for places, dealing in (
            ([0, 1], (3,)), ([0, 1], (3, None, None)), ([], (None,)), ([], (3,)), ([4], ()),
            ([0, 1, 2, 3, 4], (1,) * 4), ([0, 1, 2, 3, 4], (1,) * 6),
        ):
            self.refused(made, places, dealing)

    def test_bad_kinds(self):
        made = line(14)
        for dealing in ((12,), (-1,), (None, 12), (0, None, -1), (10 ** 30, 0), (1,) * 9, tuple(range(9)), (1,) * 14):
            self.refused(made, list(range(len(dealing))), dealing)
        self.refused(made, list(range(14)), (None,) * 15)
        self.assertEqual(len(dealt(made, list(range(8)), (1,) * 8)[4]), 8)

    def refused(self, made, places, dealing):
        before = list(places)
        with self.assertRaises(NoDeal) as caught:
            dealt(made, places, dealing)
        self.assertIs(type(caught.exception), NoDeal)
        self.assertEqual(places, before)

    def test_never_wide(self):
        self.assertEqual(dealt(far_too_wide(), [3], (4,))[4], ((3, 4),))
        self.assertEqual(dealt(just_wide(), [3], (4,))[4], ((3, 4),))
        wide = dealt(cellar(9, 0, 8, [(0, 8, ("plain",), True)], levers=[(0, 1)], wheels=[(0, 1)]), [0], (1,))
        self.assertEqual(wide[4], ((0, 1),))

    def test_what_is_handed_in_stays(self):
        made, places = all_sorts(), [3, 0, 2]
        told = dealt(made, places, (5, None, 1))
        self.assertEqual((made, places), (all_sorts(), [3, 0, 2]))
        places.clear()
        self.assertEqual(told[4], ((3, 5), (2, 1)))


class Good(unittest.TestCase):
    def test_by_hand(self):
        # The key must lie in a room ahead of the gate.
        made = cellar(4, 0, 3, DROPS, [(3, 9)])
        self.assertEqual(good(made, [4], [0, 1, 2, 3]), [1, 2, 3])
        self.assertEqual(good(made, [4], [3, 2, 1, 0]), [0, 1, 2])
        self.assertEqual(good(made, [5], [0, 1, 2, 3]), [])
        self.assertEqual(good(made, [], [0, 1, 2, 3]), [])
        self.assertEqual(good(made, [], []), [])
        self.assertEqual(good(line(3), [], []), [0])
        self.assertEqual(good(line(3), [2], [1]), [0])
        self.assertEqual(good(cellar=made, kinds=[4], places=[3, 0]), [0])

    def test_the_start_in_the_last_room(self):
        self.assertEqual(good(cellar(2, 1, 1, []), [4, 5], [0, 1]), [0, 1])

    def test_its_own_things_do_not_count(self):
        made = cellar(4, 0, 3, DROPS, [(0, 4)])
        self.assertEqual(good(made, [5], [0, 1]), [])
        self.assertEqual(good(cellar(4, 0, 3, DROPS), [4], [0, 1]), [0, 1])

    def test_stuck_may_still_be_good(self):
        # A key that can be used up at another door: the start isn't shut.
        ways = [(0, 1, ("door", 6), True), (0, 2, ("door", 6), False)]
        self.assertEqual(good(cellar(3, 0, 2, ways), [6], [0, 1, 2]), [2])

    def test_just_the_good_numbers(self):
        source = random.Random(9)
        told_sorts = set()
        asked = 0
        for seed in range(200):
            made = some_cellar(seed)
            size = source.randrange(min(made[0], 5) + 1)
            places = source.sample(range(made[0]), size)
            kinds = [source.randrange(3) for number in range(source.randrange(min(size, 3) + 1))]
            wanted = model_good(made, kinds, places)
            if wanted is None:
                self.assertRaises(Wide, good, made, kinds, places)
                continue
            told = good(made, kinds, places)
            self.assertEqual(told, wanted)
            self.assertIs(type(told), list)
            self.assertEqual({type(number) for number in told} | {int}, {int})
            told_sorts.add((0 < len(told), len(told) < count(kinds, size)))
            asked += 1
        self.assertGreater(asked, 100)
        self.assertEqual(told_sorts, {(True, True), (True, False), (False, True)})

    def test_the_list_is_the_askers_own(self):
        made, kinds, places = cellar(4, 0, 3, DROPS), [4], [0, 1, 2, 3]
        told = good(made, kinds, places)
        told.clear()
        self.assertEqual(good(made, kinds, places), [1, 2, 3])
        self.assertEqual((made, kinds, places), (cellar(4, 0, 3, DROPS), [4], [0, 1, 2, 3]))
        kinds = [5, 4, 5]
        self.assertEqual(good(made, kinds, [3, 0, 1, 2]), good(made, [5, 5, 4], [3, 0, 1, 2]))
        self.assertEqual(kinds, [5, 4, 5])


def model_good(made, kinds, places):
    """The good numbers; None where one of the cellars so dealt is wide."""
    found = []
    for number, dealing in enumerate(all_dealings(kinds, len(places))):
        things = tuple((room, kind) for room, kind in zip(places, dealing) if kind is not None)
        stands = model_come(made[:4] + (things,) + made[5:])
        if stands is None:
            return None
        if any(stand[0] == made[2] for stand in stands):
            found.append(number)
    return found


class GoodRefused(unittest.TestCase):
    def test_no_deal(self):
        made = line(14)
        for kinds, places in (
            ([4], []), ([4, 5], [0]), ([1, 2, 3], [3, 4]), ([], [0, 0]), ([4], [2, 3, 2]), ([], [14]), ([4], [-1, 0]),
            ([4], [0, 14]), ([], [10 ** 30]), ([1] * 8, [0, 1, 2]),
        ):
            self.refused(NoDeal, made, kinds, places)
        for kinds in BAD_KINDS:
            self.refused(NoDeal, made, kinds, list(range(14)))
            self.refused(NoDeal, made, kinds, list(range(min(14, len(kinds)))))

    def test_60_are_told_and_more_refused(self):
        for kinds, size in (([1, 2, 3], 5), ([1, 1, 1, 2, 2, 3], 6), ([1, 1, 1, 2, 2], 6)):
            self.assertEqual(count(kinds, size), 60)
            self.assertEqual(good(line(6), kinds, list(range(size))), list(range(60)))
        for kinds, size, many in (([1, 1], 12, 66), ([1] * 4, 8, 70), ([1, 2], 9, 72), ([1, 2, 3, 4], 5, 120)):
            self.assertEqual(count(kinds, size), many)
            self.refused(TooMany, line(14), kinds, list(range(size)))
        self.refused(TooMany, line(14), [0, 1, 2, 3, 4, 5, 6, 7], list(range(14)))

    def test_no_deal_ahead_of_too_many(self):
        for made in (line(14), far_too_wide()):
            self.refused(NoDeal, made, [1, 2, 3, 12], list(range(14)))
            self.refused(NoDeal, made, [1, 2, 3], list(range(13)) + [0])
            self.refused(NoDeal, made, [1, 2, 3], list(range(13)) + [14])
            self.refused(NoDeal, made, [1, 2, 3, 4, 5, 6, 7, 8, 9], list(range(14)))

    def test_too_many_ahead_of_wide(self):
        for made in (far_too_wide(), with_levers()):
            self.refused(TooMany, made, [1, 2, 3], list(range(9)))
            self.refused(Wide, made, [1, 2, 3], [0, 1, 2, 3, 4])
            self.refused(NoDeal, made, [1, 2, 3], [0, 1, 2, 2, 4])

    def test_wide_where_one_so_dealt_is(self):
        # A thing in room 0 or 1 makes twice as many.
        made = with_levers()
        self.assertEqual(len(come(made)), 160)
        self.assertEqual(good(made, [], [0, 1]), [])
        self.assertEqual(good(made, [3], [2]), [])
        for places in ([0, 2], [2, 0], [0], [1], [3, 1]):
            self.refused(Wide, made, [3], places)

    def test_wide_though_others_are_good(self):
        ways = [(0, 9, ("plain",), True)]
        made = cellar(10, 0, 9, ways, levers=[(0, 1), (0, 2), (0, 4), (0, 8)], wheels=[(0, 1), (0, 2), (0, 3), (0, 4)])
        self.assertEqual(len(come(made)), 160)
        self.assertEqual(good(made, [3], [1, 2]), [0, 1])
        for places in ([0, 1], [1, 0]):
            self.refused(Wide, made, [3], places)

    def test_just_more_than_300(self):
        made = just_not_wide()
        self.assertEqual(good(made, [1, 2], [3, 4]), [0, 1])
        self.refused(Wide, just_wide(), [1, 2], [3, 4])
        self.refused(Wide, made, [1, 2, 3], [3, 4, 5])

    def test_the_cellar_itself_may_be_wide(self):
        made = cellar(3, 0, 2, [(0, 1, ("plain",), True), (1, 2, ("need", 4), True)], [(0, 1)] * 8, [(0, 1)])
        self.assertIsNone(model_come(made))
        self.assertEqual(good(made, [4], [2, 1, 0]), [0, 1])
        self.assertEqual(good(made, [], []), [])

    def refused(self, kind, made, kinds, places):
        before = (list(kinds), list(places))
        with self.assertRaises(kind) as caught:
            good(made, kinds, places)
        self.assertIs(type(caught.exception), kind)
        self.assertEqual((kinds, places), before)


def with_levers():
    """160 stands come: 16 settings of four bars, five heights, two rooms; the other rooms are out of reach."""
    ways = [(0, 1, ("plain",), True), (2, 13, ("plain",), True)]
    levers = [(0, 1), (0, 2), (0, 4), (0, 8)]
    wheels = [(0, 1), (0, 2), (0, 3), (0, 4)]
    return cellar(14, 0, 13, ways, None, levers, wheels)


if __name__ == "__main__":
    unittest.main()
