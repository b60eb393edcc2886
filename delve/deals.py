"""Deals: things dealt to places, the numbers of dealings, and those by which the end can be come to."""

from delve.back import ends_of
from delve.cellars import ROOMS, THINGS
from delve.errors import NoDeal, TooMany
from delve.stands import start
from delve.walks import walk_from
from delve.whole import LAST_KIND, changed, within

# As many as a cellar has rooms and things at most.
MOST_PLACES = 14
MOST_KINDS = 8

MOST_DEALINGS = 60


def count(kinds, size):
    check_kinds(kinds)
    if not within(size, len(kinds), MOST_PLACES):
        raise NoDeal(f"{size!r} places are too few or too many")
    return orders(shares_of(kinds, size))


def number_of(dealing):
    check_dealing(dealing)
    shares = shares_of(kinds_of(dealing), len(dealing))
    number = 0
    for kind in dealing:
        own = share_of(kind)
        number += sum([orders_behind(shares, share) for share in range(own)])
        shares[own] -= 1
    return number


def dealing_of(kinds, size, number):
    most = count(kinds, size) - 1
    if not within(number, 0, most):
        raise NoDeal(f"{number!r} is not from 0 to {most}")
    shares = shares_of(kinds, size)
    dealing = []
    left = number
    for place in range(size):
        own = 0
        while left >= orders_behind(shares, own):
            left -= orders_behind(shares, own)
            own += 1
        shares[own] -= 1
        dealing.append(None if own == 0 else own - 1)
    return tuple(dealing)


def dealt(cellar, places, dealing):
    check_places(cellar, places)
    check_dealing(dealing)
    if len(dealing) != len(places):
        raise NoDeal("the dealing has more or fewer places than are told")
    things = tuple([(room, kind) for room, kind in zip(places, dealing) if kind is not None])
    return changed(cellar, THINGS, things)


def good(cellar, kinds, places):
    check_places(cellar, places)
    size = len(places)
    many = count(kinds, size)
    if many > MOST_DEALINGS:
        raise TooMany(f"{many} dealings are more than {MOST_DEALINGS}")
    return [number for number in range(many) if is_good(dealt(cellar, places, dealing_of(kinds, size, number)))]


def is_good(cellar):
    return len(ends_of(cellar, walk_from(cellar, start(cellar)))) > 0


def check_kinds(kinds):
    if len(kinds) > MOST_KINDS:
        raise NoDeal(f"more than {MOST_KINDS} kinds")
    for kind in kinds:
        if not within(kind, 0, LAST_KIND):
            raise NoDeal(f"{kind!r} is no kind")


def check_places(cellar, places):
    if len(set(places)) != len(places):
        raise NoDeal("a room is told twice")
    for room in places:
        if not within(room, 0, cellar[ROOMS] - 1):
            raise NoDeal(f"{room!r} is no room of the cellar")


def check_dealing(dealing):
    if len(dealing) > MOST_PLACES:
        raise NoDeal(f"more than {MOST_PLACES} places")
    check_kinds(kinds_of(dealing))


def kinds_of(dealing):
    return [kind for kind in dealing if kind is not None]


# How many places get nothing, then how many get each kind: so laid since None is ahead of 0.
def shares_of(kinds, size):
    shares = [size - len(kinds)] + [0] * (LAST_KIND + 1)
    for kind in kinds:
        shares[share_of(kind)] += 1
    return shares


def share_of(kind):
    return 0 if kind is None else kind + 1


def orders(shares):
    found = factorial(sum(shares))
    for share in shares:
        found = found // factorial(share)
    return found


# Of all orders just so large a part has this share at the first place as it has of the places.
def orders_behind(shares, own):
    return orders(shares) * shares[own] // sum(shares)


def factorial(number):
    found = 1
    for factor in range(2, number + 1):
        found = found * factor
    return found
