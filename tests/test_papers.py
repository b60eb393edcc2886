import random
import unittest

from delve.cellars import cellar
from delve.deeds import behind
from delve.errors import Wide
from delve.papers import holds, judged, shows_stuck
from delve.stands import start
from delve.walks import come
from tests.model import (
    all_sorts, far_too_wide, first_is_last, just_not_wide, just_wide, line, model_come, model_depths, model_holds,
    model_is_stuck, model_leads, model_led, model_nears, model_paper, model_shows_stuck, never_to_the_end, some_cellar,
    some_cellars, some_stands, two_keys_alike,
)


def never_stuck(many=60):
    return [made for made in some_cellars(many) if not model_is_stuck(made)]


def stuck(many=60):
    return [made for made in some_cellars(many) if model_is_stuck(made)] + [one_key_two_doors(), late_drop()]


def one_key_two_doors():
    """The key opens the door to the end, or is used up at another one."""
    return cellar(3, 0, 2, [(0, 1, ("door", 6), True), (0, 2, ("door", 6), False)], [(0, 6)])


def late_drop():
    """Two drops to shut rooms: one is three deeds away, one two."""
    ways = [
        (0, 1, ("plain",), True), (1, 2, ("plain",), True), (2, 3, ("plain",), False), (1, 4, ("plain",), False),
        (2, 5, ("plain",), True), (4, 6, ("plain",), True),
    ]
    return cellar(7, 0, 5, ways)


def key_and_door():
    return cellar(2, 0, 1, [(0, 1, ("door", 6), False)], [(0, 6)])


PAPER = [
    ((0, 0, 0, 0, 0), ("take", 0), 3),
    ((0, 1, 0, 0, 0), ("unlock", 0), 2),
    ((0, 1, 1, 0, 0), ("go", 0), 1),
    ((1, 1, 1, 0, 0), None, 0),
]


def with_line(place, stand=None, deed="as it was", number=None):
    """The paper of key_and_door with one line changed."""
    lines = list(PAPER)
    lines[place] = (
        stand or lines[place][0], lines[place][1] if deed == "as it was" else deed,
        lines[place][2] if number is None else number,
    )
    return lines


class JudgedNever(unittest.TestCase):
    def test_by_hand(self):
        self.assertEqual(judged(key_and_door()), ("never", PAPER))
        self.assertEqual(judged(line(3)), ("never", [
            ((0, 0, 0, 0, 0), ("go", 0), 2), ((1, 0, 0, 0, 0), ("go", 1), 1), ((2, 0, 0, 0, 0), None, 0),
        ]))

    def test_first_room_is_the_last(self):
        self.assertEqual(judged(first_is_last()), ("never", [((1, 0, 0, 0, 0), None, 0)]))
        self.assertEqual(judged(cellar(1, 0, 0, [], [(0, 1)], bars=7)), ("never", [((0, 0, 0, 7, 0), None, 0)]))

    def test_a_line_for_each_stand_with_a_deed_that_leads_one_nearer(self):
        cellars = never_stuck(120) + [just_not_wide()]
        self.assertGreater(len(cellars), 30)
        for made in cellars:
            told = judged(made)
            self.assertIs(type(told), tuple)
            self.assertEqual(told[0], "never")
            self.assertEqual(len(told), 2)
            self.assertIs(type(told[1]), list)
            numbers = dict(model_nears(made))
            self.assertEqual([(stand, number) for stand, deed, number in told[1]], model_nears(made))
            for row in told[1]:
                self.assertIs(type(row), tuple)
                stand, deed, number = row
                if stand[0] == made[2]:
                    self.assertIsNone(deed)
                else:
                    self.assertIs(type(deed), tuple)
                    self.assertEqual(numbers[dict(model_leads(made, stand))[deed]], number - 1)
            self.assertEqual(judged(cellar=made)[0], "never")


class JudgedStuck(unittest.TestCase):
    def test_by_hand(self):
        self.assertEqual(judged(one_key_two_doors()), (
            "stuck", [("take", 0), ("unlock", 0)], [(0, 1, 1, 0, 0), (1, 1, 1, 0, 0)],
        ))
        self.assertEqual(judged(late_drop()), ("stuck", [("go", 0), ("go", 3)], [(4, 0, 0, 0, 0), (6, 0, 0, 0, 0)]))

    def test_the_start_is_shut(self):
        for made in (never_to_the_end(), cellar(2, 0, 1, []), cellar(2, 0, 1, [(1, 0, ("plain",), False)])):
            self.assertEqual(judged(made), ("stuck", [], come(made)))

    def test_a_shortest_way_to_a_shut_stand_and_all_that_come_from_there(self):
        cellars = stuck(120)
        self.assertGreater(len(cellars), 30)
        for made in cellars:
            told = judged(made)
            self.assertIs(type(told), tuple)
            word, way, stands = told
            self.assertEqual(word, "stuck")
            self.assertIs(type(way), list)
            self.assertIs(type(stands), list)
            self.assertEqual({type(deed) for deed in way} | {tuple}, {tuple})
            led = model_led(made, start(made), way)
            shut = [stand for stand, near in model_nears(made) if near is None]
            self.assertIn(led[-1], shut)
            self.assertEqual(stands, sorted(model_come(made, led[-1])))
            self.assertEqual(len(way), min(depth for stand, depth in model_depths(made) if stand in shut))

    def test_just_where_a_stand_that_can_come_is_shut(self):
        words = {judged(made)[0] for made in some_cellars(120)}
        self.assertEqual(words, {"never", "stuck"})
        for made in some_cellars(120):
            self.assertEqual(judged(made)[0] == "stuck", model_is_stuck(made))


class JudgedBoth(unittest.TestCase):
    def test_wide_just_where_more_than_300_come(self):
        self.assertEqual(len(judged(just_not_wide())[1]), 300)
        for made in (just_wide(), far_too_wide()):
            with self.assertRaises(Wide) as caught:
                judged(made)
            self.assertIs(type(caught.exception), Wide)
        for made in [some_cellar(seed) for seed in range(120)]:
            if model_come(made) is None:
                self.assertRaises(Wide, judged, made)

    def test_wide_though_the_start_is_shut(self):
        things = [(0, kind) for kind in range(8)]
        self.assertRaises(Wide, judged, cellar(2, 0, 1, [], things, [(0, 1)]))
        self.assertEqual(judged(cellar(2, 0, 1, [], things))[0], "stuck")

    def test_the_lists_are_the_askers_own(self):
        for made in (key_and_door(), two_keys_alike(), late_drop(), never_to_the_end(), all_sorts()):
            told = judged(made)
            wanted = (told[0],) + tuple(list(part) for part in told[1:])
            for part in told[1:]:
                part.append("more")
                part.reverse()
            self.assertEqual(judged(made), wanted)
            for part in judged(made)[1:]:
                part.clear()
            self.assertEqual(judged(made), wanted)


class HoldsByHand(unittest.TestCase):
    def test_the_told_one(self):
        self.assertIs(holds(key_and_door(), PAPER), True)
        self.assertIs(holds(cellar=key_and_door(), paper=PAPER), True)
        for made in never_stuck(120) + [just_not_wide()]:
            self.assertIs(holds(made, judged(made)[1]), True)
            self.assertIs(holds(made, model_paper(made)), True)

    def test_turned_about(self):
        self.assertIs(holds(key_and_door(), PAPER[::-1]), True)
        self.assertIs(holds(key_and_door(), PAPER[2:] + PAPER[:2]), True)
        for made in never_stuck(30):
            lines = judged(made)[1]
            random.Random(7).shuffle(lines)
            self.assertIs(holds(made, lines), True)

    def test_greater_numbers_that_fall(self):
        self.assertIs(holds(key_and_door(), with_line(0, number=4)), True)
        self.assertIs(holds(key_and_door(), with_line(0, number=10 ** 30)), True)
        self.assertIs(holds(key_and_door(), with_line(2, number=2)), False)
        self.assertIs(holds(key_and_door(), with_line(1, number=3)), False)
        for made in never_stuck(30):
            for factor, more in ((3, 0), (1, 10 ** 30), (10 ** 30, 5)):
                paper = judged(made)[1]
                lines = [(stand, deed, number * factor + more if number else 0) for stand, deed, number in paper]
                self.assertIs(holds(made, lines), True)

    def test_a_longer_way_with_numbers_that_fall(self):
        made = cellar(3, 0, 2, [(0, 1, ("plain",), True), (1, 2, ("plain",), True), (0, 2, ("plain",), True)])
        ends = [((1, 0, 0, 0, 0), ("go", 1), 1), ((2, 0, 0, 0, 0), None, 0)]
        self.assertIs(holds(made, [((0, 0, 0, 0, 0), ("go", 2), 1)] + ends), True)
        self.assertIs(holds(made, [((0, 0, 0, 0, 0), ("go", 0), 2)] + ends), True)
        self.assertIs(holds(made, [((0, 0, 0, 0, 0), ("go", 0), 1)] + ends), False)
        # Each leads to the other: nobody would come to the end so.
        ring = [((0, 0, 0, 0, 0), ("go", 0), 5), ((1, 0, 0, 0, 0), ("go", 0), 5), ((2, 0, 0, 0, 0), None, 0)]
        self.assertIs(holds(made, ring), False)

    def test_stands_that_can_not_come(self):
        made = key_and_door()
        other_water = [(stand[:4] + (9,), deed, number) for stand, deed, number in PAPER]
        self.assertIs(holds(made, PAPER + other_water), True)
        self.assertIs(holds(made, other_water + PAPER), True)
        self.assertIs(holds(made, other_water), False)
        self.assertIs(holds(made, PAPER + other_water[:3]), False)
        self.assertIs(holds(made, PAPER + other_water[1:]), True)
        self.assertIs(holds(made, PAPER + [((1, 0, 0, 255, 0), None, 0)]), True)

    def test_stands_that_can_not_come_with_all_that_they_lead_to(self):
        seen = set()
        for made in never_stuck(40):
            paper = judged(made)[1]
            known = {stand for stand, deed, number in paper}
            for stand in some_stands(made, 3):
                if stand in known or model_come(made, stand, most=60) is None:
                    continue
                if any(near is None for other, near in model_nears(made, stand)):
                    continue
                more = [row for row in model_paper(made, stand) if row[0] not in known]
                self.assertIs(holds(made, paper + more), True)
                self.assertIs(holds(made, more + paper), True)
                self.assertIs(holds(made, more), False)
                for place in range(0, len(more), 9):
                    lines = paper + more[:place] + more[place + 1:]
                    self.assertEqual(holds(made, lines), model_holds(made, lines))
                    seen.add(holds(made, lines))
        self.assertEqual(seen, {True, False})

    def test_the_start_left_out(self):
        self.assertIs(holds(key_and_door(), PAPER[1:]), False)
        for made in never_stuck(30):
            self.assertIs(holds(made, [row for row in judged(made)[1] if row[0] != start(made)]), False)
        # All that stands here is well by itself, but it is another start's.
        made = line(3, False)
        self.assertIs(holds(made, judged(made)[1][1:]), False)

    def test_a_stand_twice(self):
        for place in range(4):
            self.assertIs(holds(key_and_door(), PAPER + [PAPER[place]]), False)
            self.assertIs(holds(key_and_door(), [PAPER[place]] + PAPER), False)
        self.assertIs(holds(key_and_door(), PAPER + [((0, 0, 0, 0, 0), ("take", 0), 4)]), False)
        self.assertIs(holds(key_and_door(), [((0, 0, 0, 0, 0), ("take", 0), 4)] + PAPER), False)

    def test_an_empty_one(self):
        for made in some_cellars(20) + [just_wide(), far_too_wide()]:
            self.assertIs(holds(made, []), False)


class HoldsNoStand(unittest.TestCase):
    def test_what_is_no_stand(self):
        # In the last room, with None and 0: wrong by this alone.
        for thing in (
            (1, 2, 0, 0, 0), (1, 3, 0, 0, 0), (1, -1, 0, 0, 0), (1, 1, 2, 0, 0), (1, 1, 3, 0, 0), (1, 1, -1, 0, 0),
            (1, 0, 1, 0, 0), (1, 0, 0, 256, 0), (1, 0, 0, -1, 0), (1, 0, 0, 0, 10), (1, 0, 0, 0, -1),
            (1, 0, 0, 0), (1,), (), (1, 0, 0, 0, 0, 0), (1, 1, 0, 0, 10 ** 30), (1, 10 ** 30, 0, 0, 0),
            (1, 1, 10 ** 30, 0, 0), (1, 0, 0, 10 ** 30, 0), (-1, 0, 0, 0, 0), (2, 0, 0, 0, 0), (10 ** 30, 0, 0, 0, 0),
        ):
            for paper in (PAPER + [(thing, None, 0)], [(thing, None, 0)] + PAPER):
                self.assertIs(holds(key_and_door(), paper), False, thing)
        for thing in ((1, 0, 0, 0, 0), (1, 1, 0, 0, 0), (1, 1, 1, 255, 9)):
            lines = [row for row in PAPER if row[0] != thing] + [(thing, None, 0)]
            self.assertIs(holds(key_and_door(), lines), True, thing)

    def test_no_stand_with_a_deed(self):
        for thing in ((2, 0, 0, 0, 0), (-2, 0, 0, 0, 0), (0, 0, 1, 0, 0), (0, 2, 0, 0, 0), (0, 0), (0, 1, 1, 0, 11)):
            for deed in (("take", 0), ("go", 0), ("unlock", 0), None):
                self.assertIs(holds(key_and_door(), PAPER + [(thing, deed, 5)]), False, thing)


class HoldsNumbersAndDeeds(unittest.TestCase):
    def test_0_out_of_the_last_room(self):
        for place in range(3):
            for deed in (None, PAPER[place][1]):
                self.assertIs(holds(key_and_door(), with_line(place, deed=deed, number=0)), False)
        self.assertIs(holds(cellar(2, 0, 1, []), [((0, 0, 0, 0, 0), None, 0)]), False)

    def test_another_number_or_a_deed_in_the_last_room(self):
        for number in (1, -1, 10 ** 30):
            self.assertIs(holds(key_and_door(), with_line(3, number=number)), False)
            grown = [(stand, deed, old + number) for stand, deed, old in PAPER]
            self.assertIs(holds(key_and_door(), grown), False)
        for deed in (("go", 0), ("take", 0), ("take", 5)):
            self.assertIs(holds(key_and_door(), with_line(3, deed=deed)), False)
            self.assertIs(holds(first_is_last(), [((1, 0, 0, 0, 0), deed, 0)]), False)
        self.assertIs(holds(first_is_last(), [((1, 0, 0, 0, 0), None, 0)]), True)
        self.assertIs(holds(first_is_last(), [((1, 0, 0, 0, 0), None, 1)]), False)

    def test_below_0(self):
        for place in range(4):
            for number in (-1, -2, -10 ** 30):
                self.assertIs(holds(key_and_door(), with_line(place, number=number)), False)
        lines = [(stand, deed, number - 9) for stand, deed, number in PAPER]
        self.assertIs(holds(key_and_door(), lines), False)
        self.assertIs(holds(key_and_door(), lines[:3] + PAPER[3:]), False)
        # The stand to which it leads has a lesser number, and all else of the line is well.
        shut = cellar(2, 0, 1, [], [(0, 0)])
        self.assertIs(holds(shut, [((0, 0, 0, 0, 0), ("take", 0), -1), ((0, 1, 0, 0, 0), None, -2)]), False)

    def test_none_or_a_deed_that_can_not_be_done(self):
        bad = (None, ("go", 0), ("unlock", 0), ("pull", 0), ("turn", 0), ("take", 1), ("take", -1), ("go", 10 ** 30))
        for deed in bad:
            self.assertIs(holds(key_and_door(), with_line(0, deed=deed)), False)
        for place in range(3):
            self.assertIs(holds(key_and_door(), with_line(place, deed=None)), False)
            self.assertIs(holds(key_and_door(), with_line(place, deed=("take", 7))), False)

    def test_a_number_not_less(self):
        self.assertIs(holds(key_and_door(), with_line(0, number=2)), False)
        self.assertIs(holds(key_and_door(), with_line(1, number=10 ** 30)), False)
        # There and back: both can be done, but one leads away from the end.
        made = line(4)
        for place in (1, 2):
            lines = judged(made)[1]
            lines[place] = (lines[place][0], ("go", place - 1), lines[place][2])
            self.assertIs(holds(made, lines), False)
            lines[place] = (lines[place][0], ("go", place), lines[place][2])
            self.assertIs(holds(made, lines), True)

    def test_a_deed_that_leads_out(self):
        made = cellar(3, 0, 2, [(0, 1, ("plain",), True), (0, 2, ("plain",), True), (1, 2, ("plain",), True)])
        paper = [((0, 0, 0, 0, 0), ("go", 1), 1), ((1, 0, 0, 0, 0), ("go", 2), 1), ((2, 0, 0, 0, 0), None, 0)]
        self.assertIs(holds(made, paper), True)
        # Room 1 left out: nothing told goes there, but one can.
        self.assertIs(holds(made, [paper[0], paper[2]]), False)
        self.assertIs(holds(made, paper[:2]), False)
        for told in never_stuck(30):
            lines = judged(told)[1]
            for place in range(len(lines)):
                self.assertIs(holds(told, lines[:place] + lines[place + 1:]), False)


class HoldsAtLarge(unittest.TestCase):
    def test_as_the_model_has_it(self):
        source = random.Random(11)
        seen = {True: 0, False: 0}
        for made in some_cellars(60):
            if len(model_come(made)) > 60:
                continue
            lines = [(stand, deed_at(made, stand, source), number or 0) for stand, number in model_nears(made)]
            papers = [lines] + [changed_paper(made, lines, source) for number in range(12)]
            if not model_is_stuck(made):
                papers += [changed_paper(made, model_paper(made), source) for number in range(12)]
            for paper in papers:
                told = holds(made, paper)
                self.assertIs(told, model_holds(made, paper))
                seen[told] += 1
                # The promise itself, whoever wrote it.
                self.assertFalse(told and model_is_stuck(made))
        self.assertGreater(min(seen.values()), 40)

    def test_no_paper_of_a_stuck_cellar(self):
        for made in stuck(60):
            near = model_nears(made)
            told = [(stand, deed_at(made, stand, random.Random(1)), number) for stand, number in near]
            for other in (None, 0, 1, 400):
                lines = [(stand, deed, other if number is None else number) for stand, deed, number in told]
                if other is None:
                    lines = [row for row in lines if row[2] is not None]
                self.assertIs(holds(made, lines), False)

    def test_never_wide(self):
        paper = model_paper(just_wide(), most=301)
        self.assertEqual(len(paper), 301)
        self.assertRaises(Wide, judged, just_wide())
        self.assertIs(holds(just_wide(), paper), True)
        self.assertIs(holds(just_wide(), paper[1:]), False)
        begin = start(far_too_wide())
        self.assertIs(holds(far_too_wide(), [(begin, ("go", 13), 1)]), False)
        self.assertIs(holds(far_too_wide(), [(begin, ("go", 13), 1), ((13,) + begin[1:], None, 0)]), False)

    def test_the_list_handed_in_stays(self):
        for paper in (list(PAPER), PAPER[1:], PAPER + PAPER, PAPER[::-1], [((9,), None, 0)] + PAPER):
            before = list(paper)
            holds(key_and_door(), paper)
            self.assertEqual(paper, before)
        lines = list(PAPER)
        self.assertIs(holds(key_and_door(), lines), True)
        lines.pop()
        self.assertIs(holds(key_and_door(), lines), False)
        self.assertIs(holds(key_and_door(), PAPER), True)


def deed_at(made, stand, source):
    deeds = [deed for deed, other in model_leads(made, stand)]
    return source.choice(deeds) if deeds else None


def changed_paper(made, lines, source):
    """One line or none changed, taken out or put in."""
    lines = list(lines)
    place = source.randrange(len(lines))
    stand, deed, number = lines[place]
    change = source.randrange(7)
    if change == 0:
        lines[place] = (stand, deed, max(0, number + source.choice((-1, 1, 2))))
    if change == 1:
        lines[place] = (stand, deed_at(made, stand, source), number)
    if change == 2:
        lines.pop(place)
    if change == 3:
        lines.append(((made[2],) + source.choice(lines)[0][1:], None, 0))
    if change == 4:
        lines[place] = (tuple(part + source.choice((0, 0, 0, 1)) for part in stand), deed, number)
    if change == 5:
        source.shuffle(lines)
    return lines


class ShowsStuckByHand(unittest.TestCase):
    def test_what_is_told(self):
        for made in stuck(120):
            word, way, stands = judged(made)
            self.assertIs(shows_stuck(made, way, stands), True)
            self.assertIs(shows_stuck(cellar=made, way=way, stands=stands), True)
            self.assertIs(shows_stuck(made, way, stands[::-1]), True)

    def test_longer_ways_and_more_stands(self):
        made = late_drop()
        stands = [(4, 0, 0, 0, 0), (6, 0, 0, 0, 0)]
        self.assertIs(shows_stuck(made, [("go", 0), ("go", 0), ("go", 0), ("go", 3)], stands), True)
        self.assertIs(shows_stuck(made, [("go", 0), ("go", 3), ("go", 5)], stands), True)
        self.assertIs(shows_stuck(made, [("go", 0), ("go", 1), ("go", 2)], stands), False)
        self.assertIs(shows_stuck(made, [("go", 0), ("go", 1), ("go", 2)], stands + [(3, 0, 0, 0, 0)]), True)
        self.assertIs(shows_stuck(made, [("go", 0), ("go", 3)], stands + [(3, 0, 0, 9, 9)]), True)

    def test_a_deed_that_can_not_be_done(self):
        made = late_drop()
        word, way, stands = judged(made)
        for deed in (("go", 1), ("go", -1), ("go", 6), ("take", 0), ("pull", 0), ("turn", 10 ** 30), ("unlock", 0)):
            self.assertIs(shows_stuck(made, [deed] + way, stands), False)
            self.assertIs(shows_stuck(made, way + [deed], stands), False)
            self.assertIs(shows_stuck(made, [deed], stands), False)
        self.assertIs(shows_stuck(made, way[::-1], stands), False)
        self.assertIs(shows_stuck(made, way + [("go", 3)], stands), False)
        # Behind the deed that can't be done one would be among the stands again.
        self.assertIs(shows_stuck(never_to_the_end(), [("go", 2)], come(never_to_the_end())), False)

    def test_deeds_that_lead_to_none_of_them(self):
        made = late_drop()
        word, way, stands = judged(made)
        for row in ([], way[:1], way[:1] * 2, [("go", 0), ("go", 1), ("go", 2)], [("go", 0), ("go", 1), ("go", 4)]):
            self.assertIs(shows_stuck(made, row, stands), False)

    def test_what_is_no_stand(self):
        made = one_key_two_doors()
        word, way, stands = judged(made)
        for thing in (
            (1, 0, 1, 0, 0), (1, 1, 4, 0, 0), (1, 2, 0, 0, 0), (3, 0, 0, 0, 0), (-1, 0, 0, 0, 0), (1, 0, 0, 256, 0),
            (1, 0, 0, 0, 10), (1, 0, 0, 0), (1, 0, 0, 0, 0, 0), (), (1, 0, 0, 0, -1), (1, 10 ** 30, 0, 0, 0),
        ):
            self.assertIs(shows_stuck(made, way, stands + [thing]), False, thing)
            self.assertIs(shows_stuck(made, way, [thing] + stands), False, thing)
            self.assertIs(shows_stuck(made, way, [thing]), False, thing)
        self.assertIs(shows_stuck(made, way, stands + [(1, 0, 0, 255, 9)]), True)
        self.assertIs(shows_stuck(made, way, stands + [(0, 0, 0, 255, 9)]), False)
        self.assertIs(shows_stuck(made, way, stands + [(1, 1, 1, 255, 9), (0, 1, 1, 255, 9)]), True)

    def test_a_stand_in_the_last_room(self):
        for made in stuck(20):
            word, way, stands = judged(made)
            last = (made[2],) + start(made)[1:]
            self.assertIs(shows_stuck(made, way, stands + [last]), False)
            self.assertIs(shows_stuck(made, way, [last] + stands), False)
        self.assertIs(shows_stuck(first_is_last(), [], [start(first_is_last())]), False)
        self.assertIs(shows_stuck(line(2), [("go", 0)], [(1, 0, 0, 0, 0)]), False)

    def test_a_deed_that_leads_out(self):
        for made in stuck(40):
            word, way, stands = judged(made)
            for place in range(len(stands)):
                left = stands[:place] + stands[place + 1:]
                self.assertEqual(shows_stuck(made, way, left), model_shows_stuck(made, way, left))
        self.assertIs(shows_stuck(late_drop(), [("go", 0), ("go", 3)], [(4, 0, 0, 0, 0)]), False)
        self.assertIs(shows_stuck(line(3), [], [(0, 0, 0, 0, 0), (1, 0, 0, 0, 0)]), False)
        self.assertIs(shows_stuck(line(3), [], [(0, 0, 0, 0, 0)]), False)

    def test_stands_twice(self):
        for made in stuck(20):
            word, way, stands = judged(made)
            self.assertIs(shows_stuck(made, way, stands + stands), True)
            self.assertIs(shows_stuck(made, way, [stands[-1]] + stands), True)

    def test_no_deeds(self):
        for made in (never_to_the_end(), cellar(2, 0, 1, [])):
            self.assertIs(shows_stuck(made, [], come(made)), True)
        for made in (one_key_two_doors(), late_drop()):
            self.assertIs(shows_stuck(made, [], judged(made)[2]), False)
            self.assertIs(shows_stuck(made, [], come(made)), False)

    def test_no_stands(self):
        for made in some_cellars(20):
            self.assertIs(shows_stuck(made, [], []), False)
        self.assertIs(shows_stuck(late_drop(), [("go", 0), ("go", 3)], []), False)
        self.assertIs(shows_stuck(late_drop(), [("go", 9)], []), False)


class ShowsStuckAtLarge(unittest.TestCase):
    def test_as_the_model_has_it(self):
        source = random.Random(5)
        seen = {True: 0, False: 0}
        for made in some_cellars(60):
            stands = judged(made)[2] if model_is_stuck(made) else come(made)
            way = judged(made)[1] if model_is_stuck(made) else []
            for number in range(12):
                row = some_row(made, source) if source.random() < 0.5 else way
                some = [stand for stand in stands if source.random() < 0.95]
                some += [source.choice(come(made))] if source.random() < 0.5 else stands
                told = shows_stuck(made, row, some)
                self.assertIs(told, model_shows_stuck(made, row, some))
                # The promise itself, whoever wrote them.
                self.assertFalse(told and not model_is_stuck(made))
                seen[told] += 1
        self.assertGreater(min(seen.values()), 40)

    def test_never_wide(self):
        begin = (0, 0, 0, 0, 0)
        made = cellar(3, 0, 1, [(0, 2, ("plain",), False)], [(0, kind) for kind in range(8)], [(0, 1)])
        self.assertRaises(Wide, judged, made)
        self.assertIs(shows_stuck(made, [("go", 0)], [(2, 0, 0, 0, 0)]), True)
        self.assertIs(shows_stuck(made, [("take", 3), ("go", 0)], [(2, 8, 0, 0, 0)]), True)
        self.assertIs(shows_stuck(made, [], [begin]), False)
        for wide in (just_wide(), far_too_wide()):
            self.assertIs(shows_stuck(wide, [], [start(wide)]), False)

    def test_the_lists_handed_in_stay(self):
        made = late_drop()
        word, way, stands = judged(made)
        for row, some in ((way, stands), (way[:1], stands), (way, stands + stands), (way, stands[1:]), ([], [])):
            before = (list(row), list(some))
            shows_stuck(made, row, some)
            self.assertEqual((row, some), before)
        self.assertIs(shows_stuck(made, way, stands), True)
        stands.pop()
        self.assertIs(shows_stuck(made, way, stands), False)


def some_row(made, source):
    stand = start(made)
    row = []
    while source.random() < 0.8 and model_leads(made, stand):
        row.append(deed_at(made, stand, source))
        stand = behind(made, stand, row[-1])
    return row


if __name__ == "__main__":
    unittest.main()
