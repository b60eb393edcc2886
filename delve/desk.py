"""The desk: it is told rows, and answers each with a text."""

from delve.ahead import word
from delve.deeds import DEED_WORDS, behind, deed_of, deeds_at
from delve.errors import NoRow
from delve.kept import Kept
from delve.stands import start
from delve.texts import is_number, numbers_of, read, shown

SMALL_LETTERS = "abcdefghijklmnopqrstuvwxyz"


class Desk:
    def __init__(self, text):
        self.kept = Kept(read(text))
        self.stand = start(self.kept.cellar())

    def say(self, row):
        words = row.split(" ")
        if words[0] == "do":
            return self.do_deed(words[1:])
        if words[0] == "gate":
            return self.set_gate(words[1:])
        if row == "back":
            return self.go_back()
        return self.answer(row)

    def do_deed(self, words):
        if len(words) != 2 or words[0] not in DEED_WORDS or not is_number(words[1]):
            raise NoRow("do has one of the five words and a number behind it")
        self.stand = behind(self.kept.cellar(), self.stand, (words[0], int(words[1])))
        return "ok"

    def set_gate(self, words):
        numbers = words[:1] + words[2:]
        if len(words) < 2 or not is_small(words[1]) or not all([is_number(number) for number in numbers]):
            raise NoRow("gate has a way, a word and perhaps numbers behind it")
        self.kept.change(int(words[0]), (words[1],) + numbers_of(words[2:]))
        return self.go_back()

    def go_back(self):
        self.stand = start(self.kept.cellar())
        return "ok"

    def answer(self, row):
        made = self.kept.cellar()
        if row == "where":
            return " ".join([str(number) for number in self.stand])
        if row == "can":
            return deeds_text(deeds_at(made, self.stand))
        if row == "left":
            return near_text(dict(self.kept.nears())[self.stand])
        if row == "word":
            return word_text(word(made, self.stand))
        if row == "judge":
            return judged_text(self.kept.judged())
        if row == "needed":
            return deeds_text(self.kept.needed())
        if row == "show":
            return shown(made)
        raise NoRow(f"{row!r} is no row")


def is_small(letters):
    return letters != "" and all([letter in SMALL_LETTERS for letter in letters])


def deeds_text(deeds):
    if len(deeds) == 0:
        return "none"
    return ", ".join([deed_of(deed).text() for deed in deeds])


def word_text(deed):
    return "none" if deed is None else deed_of(deed).text()


def near_text(near):
    return "shut" if near is None else str(near)


def judged_text(told):
    if told[0] == "never":
        return "never"
    count = len(told[1])
    return f"stuck {count}"
