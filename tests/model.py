"""Cellars for the tests, and what the document says of them, worked out by other means than the program's."""

import random

from delve.cellars import cellar

WORDS = ("go", "pull", "take", "turn", "unlock")
MOST = 300


def model_held(made, stand, kind):
    taken = [t for t, (room, own) in enumerate(made[4]) if own == kind and stand[1] & 1 << t]
    opened = [w for w, way in enumerate(made[3]) if way[2] == ("door", kind) and stand[2] & 1 << w]
    return len(taken) - len(opened)


def model_lets(made, stand, number):
    gate = made[3][number][2]
    bars, water = stand[3:]
    return {
        "plain": lambda: True,
        "door": lambda kind: stand[2] & 1 << number != 0,
        "need": lambda kind: model_held(made, stand, kind) >= 1,
        "bar": lambda bar: bars // 2 ** bar % 2 == 1,
        "wade": lambda height, kind: water <= height or model_held(made, stand, kind) >= 1,
        "float": lambda height: water >= height,
    }[gate[0]](*gate[1:])


def model_leads(made, stand):
    """The pairs (deed, stand behind) of the deeds that can be done at a stand, in order."""
    room, taken, opened, bars, water = stand
    if room == made[2]:
        return []
    found = []
    passages = [(w, a, b) for w, (a, b, gate, back) in enumerate(made[3])]
    passages += [(w, b, a) for w, (a, b, gate, back) in enumerate(made[3]) if back]
    for number, here, there in passages:
        gate = made[3][number][2]
        if here == room and model_lets(made, stand, number):
            found.append((("go", number), (there, taken, opened, bars, water)))
        if here == room and gate[0] == "door" and not opened & 1 << number and model_held(made, stand, gate[1]) >= 1:
            found.append((("unlock", number), (room, taken, opened + 2 ** number, bars, water)))
    for number, (place, mask) in enumerate(made[5]):
        if place == room:
            turned = sum(2 ** bar for bar in range(8) if bool(bars & 1 << bar) != bool(mask & 1 << bar))
            found.append((("pull", number), (room, taken, opened, turned, water)))
    for number, (place, kind) in enumerate(made[4]):
        if place == room and not taken & 1 << number:
            found.append((("take", number), (room, taken + 2 ** number, opened, bars, water)))
    for number, (place, height) in enumerate(made[6]):
        if place == room and water != height:
            found.append((("turn", number), (room, taken, opened, bars, height)))
    return sorted(found)


def model_start(made):
    return (made[1], 0, 0, made[7], made[8])


def model_come(made, begin=None, words=WORDS, most=MOST, without=()):
    """The set of the stands that come by deeds of these words, but not by those without; None where more than most."""
    found = set()
    left = [model_start(made) if begin is None else begin]
    while left and len(found) <= most:
        stand = left.pop()
        if stand not in found:
            found.add(stand)
            left += [other for deed, other in model_leads(made, stand) if deed[0] in words and deed not in without]
    return found if len(found) <= most else None


def model_round(made, stand):
    gone_to = model_come(made, stand, ("go",))
    return sorted(other for other in gone_to if stand in model_come(made, other, ("go",)))


def model_steps(made, stand):
    own = model_round(made, stand)
    found = set()
    for here in own:
        for deed, other in model_leads(made, here):
            if model_round(made, other) != own:
                found.add((deed, model_round(made, other)[0]))
    return sorted(found)


def model_distances(begins, links):
    """By passes over all links, until nothing changes."""
    told = {begin: 0 for begin in begins}
    changes = True
    while changes:
        changes = False
        for one, other in links:
            if one in told and told[one] + 1 < told.get(other, MOST * 2):
                told[other] = told[one] + 1
                changes = True
    return told


def model_links(made):
    return [(stand, other) for stand in model_come(made) for deed, other in model_leads(made, stand)]


def model_depths(made):
    return sorted(model_distances([model_start(made)], model_links(made)).items())


def model_nears(made, begin=None, most=MOST):
    stands = sorted(model_come(made, begin, most=most))
    ends = [stand for stand in stands if stand[0] == made[2]]
    links = [(other, stand) for stand in stands for deed, other in model_leads(made, stand)]
    told = model_distances(ends, links)
    return [(stand, told.get(stand)) for stand in stands]


def model_is_stuck(made):
    return any(near is None for stand, near in model_nears(made))


def model_paper(made, begin=None, most=MOST):
    """A paper for the stands that come from the begin, from none of which the end is shut."""
    numbers = dict(model_nears(made, begin, most))
    lines = []
    for stand, number in numbers.items():
        deeds = [deed for deed, other in model_leads(made, stand) if numbers[other] == number - 1]
        lines.append((stand, deeds[-1] if deeds else None, number))
    return lines


def model_is_stand(made, thing):
    if len(thing) != 5 or not all(0 <= part < top for part, top in zip(thing, (made[0], 1 << len(made[4])))):
        return False
    room, taken, opened, bars, water = thing
    doors = [number for number, way in enumerate(made[3]) if way[2][0] == "door"]
    if bars not in range(256) or water not in range(10) or opened < 0:
        return False
    if any(opened & 1 << number for number in range(200) if number not in doors):
        return False
    return all(model_held(made, thing, kind) >= 0 for kind in range(12))


def model_holds(made, paper):
    numbers = {stand: number for stand, deed, number in paper}
    if model_start(made) not in numbers or sorted(numbers) != sorted(stand for stand, deed, number in paper):
        return False
    for stand, deed, number in paper:
        if not model_is_stand(made, stand):
            return False
        after = dict(model_leads(made, stand))
        if not set(after.values()) <= set(numbers):
            return False
        ends = number == 0 and stand[0] == made[2] and deed is None
        falls = number > 0 and deed in after and numbers[after[deed]] < number
        if not ends and not falls:
            return False
    return True


def model_led(made, begin, way):
    """The stands along a row of deeds, the begin first; None where one of the deeds can't be done."""
    stands = [begin]
    for deed in way:
        after = dict(model_leads(made, stands[-1]))
        if deed not in after:
            return None
        stands.append(after[deed])
    return stands


def model_shows_stuck(made, way, stands):
    led = model_led(made, model_start(made), way)
    if led is None or led[-1] not in stands:
        return False
    if not all(model_is_stand(made, stand) and stand[0] != made[2] for stand in stands):
        return False
    return all(other in stands for stand in stands for deed, other in model_leads(made, stand))


def model_deeds(made):
    """All deeds of the cellar's own numbers, in order."""
    sizes = {"go": len(made[3]), "pull": len(made[5]), "take": len(made[4]), "turn": len(made[6]),
             "unlock": len(made[3])}
    return [(word, number) for word in WORDS for number in range(sizes[word])]


def model_must(made, one, other, begin):
    stands = model_come(made, begin, without=(one,))
    if other is None:
        return all(stand[0] != made[2] for stand in stands)
    return all(other not in dict(model_leads(made, stand)) for stand in stands)


def model_needed(made, begin):
    """The needed deeds in order; None where the end is shut from the begin."""
    if all(stand[0] != made[2] for stand in model_come(made, begin)):
        return None
    return [deed for deed in model_deeds(made) if deed[0] != "go" and model_must(made, deed, None, begin)]


def model_word(made, begin):
    needed = model_needed(made, begin)
    for deed in needed:
        others = [other for other in needed if other != deed]
        if any(deed in dict(model_leads(made, stand)) for stand in model_come(made, begin, without=others)):
            return deed
    return None


def line(rooms, back=True):
    """Rooms in a row, from the first to the last by plain ways."""
    return cellar(rooms, 0, rooms - 1, [(room, room + 1, ("plain",), back) for room in range(rooms - 1)])


def wide_parts():
    # Seven rooms in a ring, five heights, four ways of having taken, a bar up or not; the last room where it is up.
    ring = [(room, (room + 1) % 7, ("plain",), False) for room in range(7)]
    return {
        "rooms": 9,
        "first": 0,
        "last": 7,
        "ways": ring + [(0, 7, ("bar", 0), True), (8, 0, ("plain",), False)],
        "things": [(3, 1), (4, 2)],
        "levers": [(5, 1)],
        "wheels": [(1, 1), (2, 2), (3, 3), (4, 4)],
    }


def just_not_wide():
    """300 stands come from the start: (7 rooms * 2 + the last) * 5 * 4; 301 from (8, 0, 0, 0, 0)."""
    return cellar(**wide_parts())


def just_wide():
    """301 stands come from the start, in room 8; 300 from the stand behind its one deed."""
    return cellar(**{**wide_parts(), "first": 8})


def gate_to_the_wide(gate=("bar", 0)):
    """One stand comes, but 301 where the gate of way 8 lets at first."""
    parts = wide_parts()
    parts["ways"][8] = (8, 0, gate, False)
    return cellar(**{**parts, "first": 8})


def made_anew(made, way, gate):
    """The cellar with another gate, made of its parts."""
    ways = [row[:2] + (gate,) + row[3:] if number == way else row for number, row in enumerate(made[3])]
    return cellar(made[0], made[1], made[2], ways, list(made[4]), list(made[5]), list(made[6]), made[7], made[8])


def far_too_wide():
    ways = [(room, (room + 1) % 13, ("plain",), True) for room in range(13)] + [(0, 13, ("plain",), True)]
    things = [(room, room) for room in range(8)]
    levers = [(room, 1 << room) for room in range(4)]
    return cellar(14, 0, 13, ways, things, levers, [(room, room + 1) for room in range(4)])


def full_cellar():
    """As many of all as may be, with the greatest numbers; far too wide."""
    gates = [("plain",), ("door", 11), ("need", 11), ("bar", 7), ("wade", 9, 11), ("float", 9), ("wade", 0, 0)]
    ways = [(w % 14, (w + 1 + w // 14) % 14, gates[w % 7], w % 3 != 0) for w in range(20)]
    things = [(13, 11 - t) for t in range(7)] + [(0, 0)]
    levers = [(13, 255), (0, 1), (12, 128), (7, 37)]
    return cellar(14, 13, 0, ways, things, levers, [(13, 9), (0, 0), (13, 5), (10, 4)], 255, 9)


def all_sorts():
    """Ways of all six gates, back True and False; things, levers and wheels."""
    return cellar(
        5, 0, 4,
        [
            (0, 1, ("plain",), True),
            (1, 2, ("door", 3), True),
            (2, 0, ("plain",), False),
            (0, 2, ("need", 5), True),
            (2, 3, ("bar", 1), True),
            (3, 1, ("wade", 2, 5), False),
            (3, 4, ("float", 4), True),
            (1, 3, ("door", 3), False),
        ],
        [(0, 3), (1, 5)],
        [(2, 2)],
        [(3, 6), (1, 1)],
        water=3,
    )


def two_keys_alike():
    """One key, which a need asks for too, and two doors: to use it up shuts the end."""
    return cellar(
        4, 0, 3,
        [
            (0, 1, ("plain",), True),
            (0, 1, ("door", 2), True),
            (1, 2, ("door", 2), True),
            (2, 3, ("need", 2), False),
            (0, 2, ("need", 2), True),
        ],
        [(1, 2)],
    )


def never_to_the_end():
    return cellar(4, 1, 3, [(0, 1, ("plain",), True), (1, 2, ("plain",), False), (3, 2, ("plain",), False)], [(0, 0)])


def first_is_last():
    return cellar(3, 1, 1, [(0, 1, ("plain",), True), (1, 2, ("plain",), True)], [(1, 4)], [(1, 1)], [(1, 5)])


def some_gate(source):
    kind, bar, height = source.randrange(3), source.randrange(2), source.randrange(4)
    return source.choice((
        ("plain",), ("plain",), ("door", kind), ("need", kind), ("bar", bar), ("wade", height, kind), ("float", height),
    ))


def some_cellar(seed):
    source = random.Random(seed)
    rooms = source.randrange(2, 8)
    # Each room has a way from one ahead of it, so that most cellars have more than a few stands.
    ends = [(source.randrange(room), room) for room in range(1, rooms)]
    ends += [tuple(source.sample(range(rooms), 2)) for number in range(source.randrange(5))]
    return cellar(
        rooms, source.choice((0, 0, 0, rooms - 1)), source.choice((0, rooms - 1, rooms - 1, rooms - 1)),
        [(a, b, some_gate(source), source.random() < 0.7) for a, b in ends],
        [(source.randrange(rooms), source.randrange(3)) for number in range(source.randrange(4))],
        [(source.randrange(rooms), source.randrange(1, 4)) for number in range(source.randrange(3))],
        [(source.randrange(rooms), source.randrange(5)) for number in range(source.randrange(3))],
        source.randrange(4), source.randrange(5),
    )


def needy_cellar(seed):
    """Rooms in a row; what each gate asks for lies most often ahead of it."""
    source = random.Random(seed)
    rooms = source.randrange(3, 6)
    ways, things, levers, wheels = [], [], [], []
    for room in range(rooms - 1):
        word = source.choice(("plain", "door", "need", "bar", "float"))
        place = source.randrange(room + 1) if source.random() < 0.9 else source.randrange(rooms)
        numbers = {"plain": (), "float": (6,)}.get(word, (room,))
        if word in ("door", "need"):
            things += [(place, room)] * source.choice((1, 1, 1, 2))
        if word == "bar":
            levers.append((place, 1 << room))
        if word == "float":
            wheels.append((place, source.randrange(6, 10)))
        ways.append((room, room + 1, (word,) + numbers, source.random() < 0.8))
    source.shuffle(ways)
    source.shuffle(things)
    return cellar(rooms, 0, rooms - 1, ways, things, levers, wheels)


def needy_cellars(many=60):
    grown = [needy_cellar(seed) for seed in range(many)]
    return [made for made in grown if model_come(made) is not None]


def hand_made():
    lines = [line(rooms) for rooms in range(1, 15)] + [line(rooms, False) for rooms in (2, 14)]
    return lines + [all_sorts(), two_keys_alike(), never_to_the_end(), first_is_last()]


def some_cellars(many=60):
    """Cellars that aren't wide."""
    grown = [some_cellar(seed) for seed in range(many)]
    return hand_made() + [made for made in grown if model_come(made) is not None]


def some_stands(made, many=8, seed=0):
    """Stands of the cellar, that can come or not."""
    source = random.Random(seed)
    doors = [number for number, way in enumerate(made[3]) if way[2][0] == "door"]
    found = []
    while len(found) < many:
        taken = source.randrange(1 << len(made[4]))
        opened = sum(1 << number for number in doors if source.random() < 0.3)
        stand = (source.randrange(made[0]), taken, opened, source.randrange(256), source.randrange(10))
        if min(model_held(made, stand, kind) for kind in range(12)) >= 0:
            found.append(stand)
    return found
