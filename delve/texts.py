"""Texts: a cellar written line by line, and read again."""

from delve.cellars import FIRST, FIRST_BARS, FIRST_WATER, LAST, LEVERS, ROOMS, THINGS, WAYS, WHEELS
from delve.cellars import WAY_A, WAY_B, WAY_BACK, WAY_GATE, made_of
from delve.errors import NoCellar, NoText
from delve.gates import gate_of
from delve.whole import changed

FIGURES = "0123456789"

# Each cellar has these: rooms, bars, water.
FIRST_LINES = 3

# What a cellar has behind its rooms, first and last where nothing more is told.
NOTHING_MORE = ((), (), (), (), 0, 0)


def shown(cellar):
    lines = [
        numbers_line("rooms", (cellar[ROOMS], cellar[FIRST], cellar[LAST])),
        numbers_line("bars", (cellar[FIRST_BARS],)),
        numbers_line("water", (cellar[FIRST_WATER],)),
    ]
    lines.extend([way_line(way) for way in cellar[WAYS]])
    lines.extend([numbers_line("thing", thing) for thing in cellar[THINGS]])
    lines.extend([numbers_line("lever", lever) for lever in cellar[LEVERS]])
    lines.extend([numbers_line("wheel", wheel) for wheel in cellar[WHEELS]])
    return "\n".join(lines)


# The lines so far are taken as a whole cellar: so the first that fits none shows itself by NoCellar.
def read(text):
    lines = text.split("\n")
    made = None
    for number, line in enumerate(lines):
        try:
            made = with_line(made, number, line.split(" "))
        except NoCellar:
            raise NoText(number) from None
    if len(lines) < FIRST_LINES:
        raise NoText(len(lines))
    return made


def numbers_line(word, numbers):
    return " ".join([word] + [str(number) for number in numbers])


def way_line(way):
    word = "way" if way[WAY_BACK] else "drop"
    return " ".join([numbers_line(word, (way[WAY_A], way[WAY_B])), gate_of(way[WAY_GATE]).text()])


def with_line(made, number, words):
    if number == 0:
        return made_of(numbers_behind("rooms", words, 3) + NOTHING_MORE)
    if number == 1:
        return made_of(changed(made, FIRST_BARS, numbers_behind("bars", words, 1)[0]))
    if number == 2:
        return made_of(changed(made, FIRST_WATER, numbers_behind("water", words, 1)[0]))
    return with_row(made, words)


def with_row(made, words):
    part = part_of(words[0])
    if any([len(later) > 0 for later in made[part + 1:WHEELS + 1]]):
        raise NoCellar("a line stands behind one of a later sort")
    row = way_of(words) if part == WAYS else numbers_behind(words[0], words, 2)
    return made_of(changed(made, part, made[part] + (row,)))


# In which of a cellar's lists the row of a line stands that begins with the word.
def part_of(word):
    if word == "way" or word == "drop":
        return WAYS
    if word == "thing":
        return THINGS
    if word == "lever":
        return LEVERS
    if word == "wheel":
        return WHEELS
    raise NoCellar(f"no line begins with {word!r}")


def way_of(words):
    if len(words) < 4:
        raise NoCellar("a way has two rooms and a gate")
    gate = (words[3],) + numbers_of(words[4:])
    return numbers_of(words[1:3]) + (gate, words[0] == "way")


def numbers_behind(word, words, many):
    if words[0] != word or len(words) != many + 1:
        raise NoCellar(f"a line has {word} and as many numbers as {many}")
    return numbers_of(words[1:])


def numbers_of(words):
    for word in words:
        if not is_number(word):
            raise NoCellar(f"{word!r} is no number")
    return tuple([int(word) for word in words])


# So each number is written in one way alone, and each cellar too.
def is_number(word):
    if word == "" or not all([sign in FIGURES for sign in word]):
        return False
    return word == "0" or word[0] != "0"
