import random
import unittest

from delve.errors import NoPlan
from delve.plans import many, number_of, plan_depth, plan_of
from tests.growth import END, ONE, TWO, all_plans, model_depth, some_plan, tower

COUNTS = (
    1, 7, 169, 86191, 22286924017, 1490120946485455020919,
    6661381305464124918785090511089856547876441,
)


def all_kinds(thing):
    """The kinds of all that a plan is made of."""
    if isinstance(thing, tuple):
        return {tuple}.union(*[all_kinds(part) for part in thing])
    return {type(thing)}


class PlanDepth(unittest.TestCase):
    def test_by_hand(self):
        self.assertEqual(plan_depth(END), 0)
        self.assertEqual(plan_depth(plan=END), 0)
        for word in ONE:
            self.assertEqual(plan_depth((word, END)), 1)
            self.assertEqual(plan_depth((word, ("walk", END))), 2)
        for word in TWO:
            self.assertEqual(plan_depth((word, END, END)), 1)
            self.assertEqual(plan_depth((word, ("walk", END), END)), 2)
            self.assertEqual(plan_depth((word, END, ("walk", END))), 2)
            self.assertEqual(plan_depth((word, ("walk", ("drop", END)), ("walk", END))), 3)
            self.assertEqual(plan_depth((word, ("walk", END), ("spare", ("lock", END, END)))), 3)

    def test_up_to_twenty_deep(self):
        for depth in range(21):
            for word in ONE + TWO:
                self.assertEqual(plan_depth(tower(word, depth)), depth)
                self.assertEqual(plan_depth(tower(word, depth, False)), depth)
                self.assertEqual(plan_depth(("bar", tower("drop", depth // 2), tower(word, depth))), depth + 1)
                self.assertEqual(plan_depth(("bar", tower(word, depth), tower("drop", depth // 2))), depth + 1)

    def test_some_plans(self):
        source = random.Random(4)
        for time in range(300):
            plan = some_plan(source, source.randrange(9))
            self.assertEqual(plan_depth(plan), model_depth(plan))


class Many(unittest.TestCase):
    def test_counts(self):
        self.assertEqual([many(depth) for depth in range(7)], list(COUNTS))
        self.assertEqual(many(depth=6), COUNTS[6])
        for depth in range(3):
            self.assertEqual(many(depth), len(set(all_plans(depth))))


class Numbers(unittest.TestCase):
    def test_each_number_has_just_one_plan(self):
        for depth in range(4):
            told = [plan_of(number, depth) for number in range(COUNTS[depth])]
            self.assertEqual(len(set(told)), COUNTS[depth])
            if depth < 3:
                self.assertEqual(set(told), set(all_plans(depth)))
                self.assertEqual([number_of(plan, depth) for plan in told], list(range(COUNTS[depth])))
                self.assertLessEqual(max(plan_depth(plan) for plan in told), depth)

    def test_all_plans_of_depth_three(self):
        self.assertEqual({plan_of(number, 3) for number in range(COUNTS[3])}, set(all_plans(3)))

    def test_at_both_ends_and_in_the_midst(self):
        source = random.Random(8)
        for depth in range(7):
            most = COUNTS[depth] - 1
            numbers = {0, most // 3, most // 2, most // 2 + 1, most}
            numbers |= {source.randrange(most + 1) for time in range(60)}
            numbers |= set(range(20)) | {most - step for step in range(20)}
            # Where plans of one part end and those of two begin, and where the word changes.
            lesser = COUNTS[depth - 1] if depth else 0
            for place in range(4):
                numbers |= {1 + place * lesser + step for step in (-2, -1, 0, 1)}
                numbers |= {1 + 3 * lesser + place * lesser * lesser + step for step in (-2, -1, 0, 1)}
            numbers = sorted(number for number in numbers if 0 <= number <= most)
            told = [plan_of(number, depth) for number in numbers]
            self.assertEqual([number_of(plan, depth) for plan in told], numbers)
            self.assertEqual(len(set(told)), len(numbers))
            for plan in told:
                self.assertLessEqual(model_depth(plan), depth)
                self.assertEqual(all_kinds(plan), {tuple, str})

    def test_some_plans(self):
        source = random.Random(6)
        for depth in range(7):
            plans = {some_plan(source, depth) for time in range(200)}
            numbers = [number_of(plan, depth) for plan in plans]
            self.assertEqual({type(number) for number in numbers}, {int})
            self.assertEqual(len(set(numbers)), len(plans))
            self.assertGreaterEqual(min(numbers), 0)
            self.assertLess(max(numbers), COUNTS[depth])
            self.assertEqual([plan_of(number, depth) for number in numbers], list(plans))

    def test_a_plan_in_each_depth_that_it_keeps_to(self):
        for plan in [END, ("spare", END), ("lock", END, ("bar", END, END)), tower("door", 3), tower("walk", 6)]:
            for depth in range(plan_depth(plan), 7):
                self.assertEqual(plan_of(number_of(plan, depth), depth), plan)
                self.assertEqual(plan_of(number=number_of(plan=plan, depth=depth), depth=depth), plan)

    def test_what_is_asked_between_changes_nothing(self):
        wanted = [plan_of(number, 4) for number in range(100)]
        for depth in (0, 6, 2):
            plan_of(0, depth)
        self.assertEqual([plan_of(number, 4) for number in range(100)], wanted)


class Refused(unittest.TestCase):
    def refused(self, asked, *handed_in):
        with self.assertRaises(NoPlan) as caught:
            asked(*handed_in)
        self.assertIs(type(caught.exception), NoPlan)

    def test_numbers_out_of_the_range(self):
        for depth in range(7):
            most = COUNTS[depth]
            for number in (-1, -2, -most, most, most + 1, 2 * most, 10 ** 59, -10 ** 59):
                self.refused(plan_of, number, depth)
            self.assertEqual(plan_depth(plan_of(0, depth)) <= depth, True)
            self.assertEqual(plan_depth(plan_of(most - 1, depth)) <= depth, True)

    def test_deeper_plans(self):
        for depth in range(7):
            for word in ONE + TWO:
                for more in (1, 2, 14):
                    self.refused(number_of, tower(word, depth + more), depth)
                    self.refused(number_of, tower(word, depth + more, False), depth)
                number_of(tower(word, depth), depth)
                number_of(tower(word, depth, False), depth)
        self.refused(number_of, ("lock", tower("walk", 6), END), 6)
        self.refused(number_of, ("lock", END, tower("walk", 6)), 6)


if __name__ == "__main__":
    unittest.main()
