import random
import unittest

from delve.ahead import must, needed
from delve.cellars import cellar
from delve.errors import TooMany, Wide
from delve.grow import built
from delve.papers import holds, judged
from delve.plans import plan_depth, plan_of
from tests.growth import (
    END, ONE, TWO, all_plans, grown_plan, is_too_many, model_built, model_sizes, model_words, plan_needs, some_plan,
    tower,
)
from tests.model import model_come, model_is_stuck, model_needed

PLAIN = ("plain",)
WALK = ("walk", END)
DROP = ("drop", END)
SPARE = ("spare", END)
GATES = {"lock": ("need", 0), "door": ("door", 0), "bar": ("bar", 0)}


def bare(rooms, last, ways, things=(), levers=()):
    return (rooms, 0, last, tuple(ways), tuple(things), tuple(levers), (), 0, 0)


def laid(word, room):
    """The things and the levers where there is one gate of the word alone."""
    return ([], [(room, 1)]) if word == "bar" else ([(room, 0)], [])


def wide_free_plans():
    """Plans of many sorts that make no wide cellar and none that has too many."""
    source = random.Random(25)
    plans = all_plans(2) + [grown_plan(source, steps) for steps in range(3, 13) for time in range(12)]
    plans += [tower(word, depth, left) for word in ONE + TWO for depth in (3, 4) for left in (True, False)]
    plans += [tower(word, 13) for word in ("walk", "drop")]
    plans = [plan for plan in plans if not is_too_many(plan)]
    return [plan for plan in plans if model_come(model_built(plan)) is not None]


class OneWord(unittest.TestCase):
    def test_end(self):
        self.assertEqual(built(END), bare(1, 0, []))
        self.assertEqual(built(plan=END), bare(1, 0, []))

    def test_walk_and_drop(self):
        self.assertEqual(built(WALK), bare(2, 1, [(0, 1, PLAIN, True)]))
        self.assertEqual(built(DROP), bare(2, 1, [(0, 1, PLAIN, False)]))
        self.assertEqual(built(("walk", DROP)), bare(3, 2, [(0, 1, PLAIN, True), (1, 2, PLAIN, False)]))
        self.assertEqual(built(("drop", WALK)), bare(3, 2, [(0, 1, PLAIN, False), (1, 2, PLAIN, True)]))

    def test_spare(self):
        self.assertEqual(built(SPARE), bare(1, 0, [], [(0, 11)]))
        self.assertEqual(built(("spare", SPARE)), bare(1, 0, [], [(0, 11), (0, 11)]))
        self.assertEqual(built(("walk", SPARE)), bare(2, 1, [(0, 1, PLAIN, True)], [(1, 11)]))
        self.assertEqual(built(("spare", WALK)), bare(2, 1, [(0, 1, PLAIN, True)], [(0, 11)]))

    def test_two_parts_with_a_side_that_ends_here(self):
        for word in TWO:
            way = (0, 1, GATES[word], True)
            self.assertEqual(built((word, END, END)), bare(2, 1, [way], *laid(word, 0)))
            walked = bare(3, 2, [way, (1, 2, PLAIN, True)], *laid(word, 0))
            self.assertEqual(built((word, END, WALK)), walked)

    def test_two_parts_with_a_side_of_spare_things(self):
        for word in TWO:
            things, levers = laid(word, 0)
            way = (0, 1, GATES[word], True)
            self.assertEqual(built((word, SPARE, END)), bare(2, 1, [way], [(0, 11)] + things, levers))
            spares = [(0, 11), (0, 11)] + things
            self.assertEqual(built((word, ("spare", SPARE), END)), bare(2, 1, [way], spares, levers))
            self.assertEqual(built((word, END, SPARE)), bare(2, 1, [way], things + [(1, 11)], levers))

    def test_two_parts_with_a_side_that_ends_in_another_room(self):
        for word in TWO:
            for side in (WALK, DROP):
                there = (0, 1, PLAIN, side == WALK)
                back = (1, 0, PLAIN, False)
                way = (0, 2, GATES[word], True)
                self.assertEqual(built((word, side, END)), bare(3, 2, [there, back, way], *laid(word, 1)))

    def test_two_parts_in_another_room(self):
        for word in TWO:
            ways = [(0, 1, PLAIN, False), (1, 2, PLAIN, True), (2, 1, PLAIN, False), (1, 3, GATES[word], True)]
            self.assertEqual(built(("drop", (word, WALK, END))), bare(4, 3, ways, *laid(word, 2)))

    def test_the_side_goes_two_rooms_far(self):
        for word in TWO:
            ways = [(0, 1, PLAIN, True), (1, 2, PLAIN, False), (2, 0, PLAIN, False), (0, 3, GATES[word], True)]
            self.assertEqual(built((word, ("walk", DROP), END)), bare(4, 3, ways, *laid(word, 2)))


class WithinEachOther(unittest.TestCase):
    def test_a_gate_in_the_side_of_a_gate(self):
        wanted = bare(
            3, 2,
            [(0, 1, ("need", 0), True), (1, 0, PLAIN, False), (0, 2, ("door", 1), True)],
            [(0, 0), (1, 1)],
        )
        self.assertEqual(built(("door", ("lock", END, END), END)), wanted)
        wanted = bare(
            3, 2,
            [(0, 1, ("bar", 0), True), (1, 0, PLAIN, False), (0, 2, ("bar", 1), True)],
            [],
            [(0, 1), (1, 2)],
        )
        self.assertEqual(built(("bar", ("bar", END, END), END)), wanted)

    def test_a_gate_behind_a_gate(self):
        wanted = bare(3, 2, [(0, 1, ("need", 0), True), (1, 2, ("door", 1), True)], [(0, 0), (1, 1)])
        self.assertEqual(built(("lock", END, ("door", END, END))), wanted)
        wanted = bare(3, 2, [(0, 1, ("bar", 0), True), (1, 2, ("need", 0), True)], [(1, 0)], [(0, 1)])
        self.assertEqual(built(("bar", END, ("lock", END, END))), wanted)

    def test_all_seven_words_at_once(self):
        plan = ("lock", ("walk", SPARE), ("door", DROP, ("bar", SPARE, WALK)))
        self.assertEqual(built(plan), (
            7, 0, 6,
            (
                (0, 1, PLAIN, True), (1, 0, PLAIN, False), (0, 2, ("need", 0), True), (2, 3, PLAIN, False),
                (3, 2, PLAIN, False), (2, 4, ("door", 1), True), (4, 5, ("bar", 0), True), (5, 6, PLAIN, True),
            ),
            ((1, 11), (1, 0), (3, 1), (4, 11)),
            ((4, 1),),
            (), 0, 0,
        ))

    def test_kinds_are_not_counted_with_spare_things(self):
        plan = ("spare", ("lock", SPARE, ("spare", ("door", END, ("spare", ("lock", END, END))))))
        kinds = [kind for room, kind in built(plan)[4]]
        self.assertEqual(kinds, [11, 11, 0, 11, 1, 11, 2])
        self.assertEqual([way[2] for way in built(plan)[3]], [("need", 0), ("door", 1), ("need", 2)])

    def test_kinds_and_bars_each_from_0_on(self):
        plan = tower("bar", 2, False, tower("lock", 2, False, tower("bar", 2, False, tower("door", 2, False))))
        gates = [("bar", 0), ("bar", 1), ("need", 0), ("need", 1), ("bar", 2), ("bar", 3), ("door", 2), ("door", 3)]
        self.assertEqual([way[2] for way in built(plan)[3]], gates)
        self.assertEqual([mask for room, mask in built(plan)[5]], [1, 2, 4, 8])

    def test_what_the_side_makes_has_the_lesser_numbers(self):
        side = ("lock", WALK, SPARE)
        made = built(("door", side, ("lock", END, END)))
        self.assertEqual(made, bare(
            5, 4,
            [
                (0, 1, PLAIN, True), (1, 0, PLAIN, False), (0, 2, ("need", 0), True), (2, 0, PLAIN, False),
                (0, 3, ("door", 1), True), (3, 4, ("need", 2), True),
            ],
            [(1, 0), (2, 11), (2, 1), (3, 2)],
        ))

    def test_all_small_plans(self):
        for plan in all_plans(2):
            self.assertEqual(built(plan), model_built(plan), plan)

    def test_some_plans(self):
        source = random.Random(7)
        plans = [some_plan(source, source.randrange(3, 9)) for time in range(300)]
        plans += [grown_plan(source, steps) for steps in range(3, 16) for time in range(25)]
        plans += [plan_of(source.randrange(86191), 3) for time in range(300)]
        told = [plan for plan in plans if not is_too_many(plan)]
        self.assertGreater(len(told), 400)
        for plan in told:
            self.assertEqual(built(plan), model_built(plan), plan)

    def test_up_to_twenty_deep(self):
        for depth in range(14):
            for word in ("walk", "drop"):
                made = built(tower(word, depth))
                self.assertEqual(made[:3], (depth + 1, 0, depth))
                self.assertEqual([way[3] for way in made[3]], [word == "walk"] * depth)
        for plan in (
            tower("walk", 12, top=tower("spare", 8)), tower("drop", 8, top=tower("lock", 5, False, SPARE)),
            tower("spare", 7, top=tower("walk", 12, top=("lock", END, END))),
            tower("walk", 7, top=tower("spare", 5, top=tower("door", 3, top=tower("drop", 3)))),
            tower("bar", 4, False, tower("drop", 8, top=tower("spare", 8))),
        ):
            self.assertGreaterEqual(plan_depth(plan), 13)
            self.assertLessEqual(plan_depth(plan), 20)
            self.assertEqual(built(plan), model_built(plan))
        self.assertEqual(plan_depth(tower("walk", 12, top=tower("spare", 8))), 20)


class TheCellar(unittest.TestCase):
    def test_its_parts_make_the_same_cellar(self):
        for plan in wide_free_plans() + [edge_plan()]:
            made = built(plan)
            self.assertEqual(cellar(*made), made)
            self.assertEqual(cellar(*[list(part) if isinstance(part, tuple) else part for part in made]), made)
            self.assertEqual(made[6:], ((), 0, 0))
            self.assertEqual(made[1], 0)
            self.assertEqual(built(plan), made)
            hash(made)
            for way in made[3]:
                self.assertEqual([type(part) for part in way], [int, int, tuple, bool])

    def test_each_room_but_the_first_has_a_way_from_one_ahead_of_it(self):
        for plan in wide_free_plans():
            made = built(plan)
            self.assertEqual([b for a, b, gate, back in made[3] if a < b], list(range(1, made[0])))
            for a, b, gate, back in made[3]:
                if a > b:
                    self.assertEqual((gate, back), (PLAIN, False))


def edge_plan():
    """Just 14 rooms, 20 ways, 8 things, 4 levers."""
    left = tower("lock", 4, True, tower("bar", 4))
    return with_last(left, ("door", END, ("lock", END, ("door", END, ("door", END, WALK)))))


def with_last(plan, last):
    """The plan with another in the place of the end at which it ends."""
    return last if plan == END else plan[:-1] + (with_last(plan[-1], last),)


class TooManyOf(unittest.TestCase):
    def refused(self, plan):
        with self.assertRaises(TooMany) as caught:
            built(plan)
        self.assertIs(type(caught.exception), TooMany)

    def just(self, plan, more, sizes):
        """The plan is told, and refused with one part more at its end."""
        self.assertEqual(model_sizes(plan), sizes)
        self.assertEqual(built(plan), model_built(plan))
        self.refused(with_last(plan, more))

    def test_just_all_of_each(self):
        self.assertEqual(model_sizes(edge_plan()), (14, 20, 8, 4))
        self.assertEqual(built(edge_plan()), model_built(edge_plan()))
        for more in (WALK, DROP, SPARE, ("lock", END, END), ("door", END, END), ("bar", END, END)):
            self.refused(with_last(edge_plan(), more))

    def test_rooms(self):
        self.just(tower("walk", 13), WALK, (14, 13, 0, 0))
        self.just(tower("drop", 13), DROP, (14, 13, 0, 0))
        self.just(tower("drop", 13), WALK, (14, 13, 0, 0))
        for word in TWO:
            self.just(tower("walk", 13), (word, END, END), (14, 13, 0, 0))
        self.just(tower("walk", 6, top=tower("lock", 7, False)), WALK, (14, 13, 7, 0))
        self.just(tower("walk", 9, top=tower("bar", 4, False)), DROP, (14, 13, 0, 4))
        self.refused(("lock", tower("walk", 13), END))
        self.refused(("lock", tower("walk", 6), tower("walk", 7)))
        built(("lock", tower("walk", 6), tower("walk", 6)))

    def test_ways(self):
        # A gate whose side ends in another room has two ways of its own, and one room.
        sides = tower("door", 6, True, tower("bar", 4))
        self.just(("walk", sides), WALK, (12, 20, 6, 4))
        self.just(("drop", sides), DROP, (12, 20, 6, 4))
        self.just(with_last(sides, ("lock", END, END)), WALK, (12, 20, 7, 4))
        self.assertEqual(model_sizes(tower("lock", 7, True, tower("bar", 4))), (12, 21, 7, 4))
        self.refused(tower("lock", 7, True, tower("bar", 4)))
        self.assertEqual(model_sizes(("lock", ("walk", sides), END)), (13, 22, 7, 4))
        self.refused(("lock", ("walk", sides), END))
        # Where the side ends here it has but one.
        spared = tower("lock", 6, True, ("bar", SPARE, ("bar", END, ("bar", SPARE, ("bar", END, END)))))
        self.just(spared, ("walk", ("walk", ("walk", ("walk", END)))), (11, 16, 8, 4))
        self.assertEqual(built(with_last(spared, ("walk", ("walk", WALK))))[0], 14)

    def test_ways_where_a_side_begins_with_a_spare_thing(self):
        for side in (END, SPARE, ("spare", SPARE)):
            plan = tower("lock", 4, True, tower("bar", 4, True, side))
            self.assertEqual(model_sizes(with_last(plan, tower("walk", 5)))[:2], (14, 20))
            self.assertEqual(len(built(with_last(plan, tower("walk", 5)))[3]), 20)
            self.refused(with_last(plan, tower("walk", 6)))
        for side in (("spare", WALK), ("spare", ("spare", DROP))):
            plan = tower("lock", 6, True, tower("bar", 4, True, side))
            self.assertEqual(model_sizes(plan)[:2], (12, 21))
            self.refused(plan)
            self.assertEqual(len(built(tower("lock", 5, True, tower("bar", 4, True, side)))[3]), 19)

    def test_things(self):
        self.just(tower("spare", 8), SPARE, (1, 0, 8, 0))
        self.just(tower("spare", 8), ("lock", END, END), (1, 0, 8, 0))
        self.just(tower("spare", 8), ("door", END, END), (1, 0, 8, 0))
        for word in ("lock", "door"):
            self.just(tower(word, 8, False), SPARE, (9, 8, 8, 0))
            self.just(tower(word, 8, False), (word, END, END), (9, 8, 8, 0))
            self.just(tower(word, 8), SPARE, (9, 15, 8, 0))
        self.just(tower("spare", 3, top=tower("lock", 3, False, tower("door", 2, False))), SPARE, (6, 5, 8, 0))
        self.just(("bar", tower("spare", 8), WALK), SPARE, (3, 2, 8, 1))
        self.refused(("bar", tower("spare", 9), END))
        self.refused(("lock", tower("spare", 8), END))
        self.assertEqual([kind for room, kind in built(tower("lock", 8, False))[4]], list(range(8)))

    def test_levers(self):
        self.just(tower("bar", 4, False), ("bar", END, END), (5, 4, 0, 4))
        self.just(tower("bar", 4), ("bar", END, END), (5, 7, 0, 4))
        self.just(tower("spare", 4, top=tower("bar", 4, False, WALK)), ("bar", END, END), (6, 5, 4, 4))
        self.refused(tower("bar", 5))
        self.refused(("lock", tower("bar", 5), END))

    def test_great_plans(self):
        for depth in (15, 20):
            for word in ONE + TWO:
                for left in (True, False):
                    self.refused(tower(word, depth, left))
        source = random.Random(3)
        for steps in range(25, 30):
            for time in range(20):
                plan = grown_plan(source, steps)
                self.assertLessEqual(len(model_words(plan)), 60)
                if is_too_many(plan):
                    self.refused(plan)
        full = END
        for depth in range(4):
            full = ("door", full, full)
        self.assertEqual(len(model_words(("walk", full))), 32)
        self.refused(("walk", full))
        self.refused(("lock", full, tower("bar", 13, False)))
        self.assertEqual(len(model_words(("lock", full, tower("bar", 13, False)))), 59)

    def test_just_where_the_model_has_it_so(self):
        source = random.Random(12)
        sorts = set()
        for time in range(600):
            plan = grown_plan(source, source.randrange(8, 22))
            sorts.add(is_too_many(plan))
            if is_too_many(plan):
                self.refused(plan)
            else:
                self.assertEqual(built(plan), model_built(plan))
        self.assertEqual(sorts, {True, False})

    def test_never_wide(self):
        made = built(tower("spare", 8, top=WALK))
        self.assertEqual(len(made[4]), 8)
        self.assertIsNone(model_come(model_built(edge_plan())))
        self.assertRaises(Wide, judged, built(edge_plan()))


class WhatHolds(unittest.TestCase):
    def test_never_stuck_by_a_paper_that_is_let_by(self):
        plans = wide_free_plans()
        self.assertGreater(len(plans), 250)
        for plan in plans:
            made = built(plan)
            told = judged(made)
            self.assertEqual(told[0], "never", plan)
            self.assertTrue(holds(made, told[1]), plan)
            self.assertFalse(model_is_stuck(made))

    def test_or_wide(self):
        source = random.Random(26)
        told = []
        for steps in (9, 10, 11, 12, 13, 14) * 10:
            plan = grown_plan(source, steps)
            if not is_too_many(plan):
                made = built(plan)
                told.append(model_come(made) is None)
                if told[-1]:
                    self.assertRaises(Wide, judged, made)
                    self.assertRaises(Wide, needed, made)
                else:
                    self.assertEqual(judged(made)[0], "never")
                    self.assertEqual(needed(made), plan_needs(made))
        self.assertEqual(set(told), {True, False})

    def test_needed_by_hand(self):
        self.assertEqual(needed(built(END)), [])
        self.assertEqual(needed(built(SPARE)), [])
        self.assertEqual(needed(built(("walk", SPARE))), [])
        self.assertEqual(needed(built(("lock", END, END))), [("take", 0)])
        self.assertEqual(needed(built(("lock", SPARE, END))), [("take", 1)])
        self.assertEqual(needed(built(("door", END, END))), [("take", 0), ("unlock", 0)])
        self.assertEqual(needed(built(("door", WALK, END))), [("take", 0), ("unlock", 2)])
        self.assertEqual(needed(built(("bar", DROP, END))), [("pull", 0)])
        plan = ("lock", ("walk", SPARE), ("door", DROP, ("bar", SPARE, WALK)))
        self.assertEqual(needed(built(plan)), [("pull", 0), ("take", 1), ("take", 2), ("unlock", 5)])

    def test_needed_are_just_these(self):
        for plan in wide_free_plans():
            made = built(plan)
            self.assertEqual(needed(made), plan_needs(made), plan)
            words = model_words(plan)
            keys = words.count("lock") + words.count("door")
            self.assertEqual(len(needed(made)), keys + words.count("door") + words.count("bar"))

    def test_needed_as_the_model_has_it(self):
        for plan in all_plans(2):
            made = built(plan)
            self.assertEqual(model_needed(made, (0, 0, 0, 0, 0)), plan_needs(made))

    def test_a_spare_things_take_is_not_needed(self):
        seen = 0
        for plan in wide_free_plans():
            made = built(plan)
            for number, (room, kind) in enumerate(made[4]):
                if kind == 11:
                    seen += 1
                    self.assertNotIn(("take", number), needed(made))
                    self.assertEqual(must(made, ("take", number), None)[0], "no")
        self.assertGreater(seen, 100)


if __name__ == "__main__":
    unittest.main()
