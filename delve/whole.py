"""Whole numbers: the ends of their ranges, and their bits; and tuples with one part changed."""

LAST_KIND = 11
LAST_BAR = 7
TOP_HEIGHT = 9
ALL_BARS = 255


def within(number, least, most):
    # Python counts True and False as ints; here they are no whole numbers.
    if isinstance(number, bool) or not isinstance(number, int):
        return False
    return least <= number <= most


def has_bit(bits, place):
    return (bits >> place) & 1 == 1


def changed(parts, place, part):
    return parts[:place] + (part,) + parts[place + 1:]
