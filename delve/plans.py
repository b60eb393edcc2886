"""Plans: how deep they are, how many there are, and their numbers."""

from delve.errors import NoPlan
from delve.whole import within

# Words of plans with one part, and of those with two; where a word stands here tells its place in the numbers.
ONE_PART = ("walk", "drop", "spare")
TWO_PARTS = ("lock", "door", "bar")


def plan_depth(plan):
    return max([plan_depth(part) + 1 for part in plan[1:]], default=0)


def many(depth):
    found = 1
    for step in range(depth):
        found = 1 + 3 * found + 3 * found * found
    return found


def plan_of(number, depth):
    if not within(number, 0, many(depth) - 1):
        raise NoPlan(f"there is no plan {number} of depth {depth}")
    return numbered(number, depth)


def number_of(plan, depth):
    if plan_depth(plan) > depth:
        raise NoPlan(f"a plan is deeper than {depth}")
    return counted(plan, depth)


# Number 0 is the end's; then come those of one part, then those of two, word by word.
def numbered(number, depth):
    if number == 0:
        return ("end",)
    lesser = many(depth - 1)
    left = number - 1
    if left < len(ONE_PART) * lesser:
        return (ONE_PART[left // lesser], numbered(left % lesser, depth - 1))
    left -= len(ONE_PART) * lesser
    word = TWO_PARTS[left // (lesser * lesser)]
    return (word, numbered(left // lesser % lesser, depth - 1), numbered(left % lesser, depth - 1))


def counted(plan, depth):
    if plan[0] == "end":
        return 0
    lesser = many(depth - 1)
    parts = [counted(part, depth - 1) for part in plan[1:]]
    if plan[0] in ONE_PART:
        return 1 + ONE_PART.index(plan[0]) * lesser + parts[0]
    pair = (TWO_PARTS.index(plan[0]) * lesser + parts[0]) * lesser + parts[1]
    return 1 + len(ONE_PART) * lesser + pair
