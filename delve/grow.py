"""Growing: a plan built, room by room."""

from delve.cellars import MOST_LEVERS, MOST_ROOMS, MOST_THINGS, MOST_WAYS, cellar
from delve.errors import TooMany
from delve.plans import TWO_PARTS

FIRST_ROOM = 0
SPARE_KIND = 11


class Site:
    def __init__(self):
        self.rooms = 1
        self.ways = []
        self.things = []
        self.levers = []
        # Counted by themselves: spare things have a kind that isn't numbered so.
        self.kinds = 0


def built(plan):
    check_size(plan)
    site = Site()
    last = build(site, plan, FIRST_ROOM)
    return cellar(site.rooms, FIRST_ROOM, last, site.ways, site.things, site.levers)


# Builds a plan in the room told, and tells the room where it ends.
def build(site, plan, here):
    word = plan[0]
    if word == "end":
        return here
    if word == "spare":
        site.things.append((here, SPARE_KIND))
        return build(site, plan[1], here)
    if word == "walk" or word == "drop":
        return build(site, plan[1], new_room(site, here, ("plain",), word == "walk"))
    side_end = build(site, plan[1], here)
    gate = new_gate(site, word, side_end)
    if side_end != here:
        site.ways.append((side_end, here, ("plain",), False))
    return build(site, plan[2], new_room(site, here, gate, True))


# Lays in the room what the gate asks for, and tells the gate.
def new_gate(site, word, room):
    if word == "bar":
        bar = len(site.levers)
        site.levers.append((room, 1 << bar))
        return ("bar", bar)
    kind = site.kinds
    site.kinds += 1
    site.things.append((room, kind))
    return ("need" if word == "lock" else "door", kind)


def new_room(site, here, gate, back):
    room = site.rooms
    site.rooms += 1
    site.ways.append((here, room, gate, back))
    return room


# Counted ahead of building: of a great plan there might be kinds and bars that no gate has.
def check_size(plan):
    parts = parts_of(plan)
    words = [part[0] for part in parts]
    sides = [part[1] for part in parts if part[0] in TWO_PARTS]
    new_rooms = words.count("walk") + words.count("drop") + len(sides)
    ways_back = len([side for side in sides if not ends_here(side)])
    check_most("rooms", new_rooms + 1, MOST_ROOMS)
    check_most("ways", new_rooms + ways_back, MOST_WAYS)
    check_most("things", words.count("spare") + words.count("lock") + words.count("door"), MOST_THINGS)
    check_most("levers", words.count("bar"), MOST_LEVERS)


def check_most(name, number, most):
    if number > most:
        raise TooMany(f"{number} {name} are more than {most}")


# The plan itself, and all plans within it.
def parts_of(plan):
    parts = [plan]
    place = 0
    while place < len(parts):
        parts.extend(parts[place][1:])
        place += 1
    return parts


# Whether a plan ends in the room where it begins: all but these go on in a new one.
def ends_here(plan):
    return plan[0] == "end" or (plan[0] == "spare" and ends_here(plan[1]))
