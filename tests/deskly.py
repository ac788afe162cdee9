"""A desk as plain lists: all things are made anew from the deeds that stand whenever they are asked for."""

import re

from plainly import WORDS, PlainYard, by_rule
from roadqueues.desk import Desk, desk_text
from roadqueues.errors import (
    BadDeed, BadName, BadNumber, BadRule, BadText, BadWeb, Held, NoThing, OtherWeb, TooMany, WrongKind,
)
from roadqueues.rates import read_puttings
from roadqueues.webs import Web

LENGTHS = {"web": 3, "row": 4, "copy": 3, "drop": 2, "joined": 4, "shifted": 4, "yard": 4, "play": 4}


def is_name(value):
    return type(value) is str and re.fullmatch("[a-z]{1,8}", value) is not None


def is_number(value, most):
    return type(value) is int and 0 <= value <= most


def first_error(*checks):
    """The first pair (error, value) of those that are told as (whether it is so, error, value)."""
    for is_so, error, value in checks:
        if is_so():
            return (error, value)
    return None


class PlainDesk:
    """The deeds that stand, those that were undone, the last one undone last, and notes."""

    def __init__(self):
        self.done, self.undone, self.noted = [], [], {}

    def things(self):
        """(kind, text of the web, what there is) by name: of a yard its rule and what was played."""
        things = {}
        for deed in self.done:
            word, name = deed[:2]
            if word == "web":
                things[name] = ("web", deed[2], None)
            elif word == "row":
                text = things[deed[2]][1]
                things[name] = ("row", text, read_puttings(Web(text), deed[3]))
            elif word == "copy":
                things[deed[2]] = things[name]
            elif word == "drop":
                things.pop(name)
            elif word == "joined":
                one, other = things[deed[2]], things[deed[3]]
                things[name] = ("row", one[1], tuple(sorted(one[2] + other[2], key=lambda putting: putting[0])))
            elif word == "shifted":
                kind, text, row = things[deed[2]]
                things[name] = (kind, text, tuple([(beat + deed[3], way) for beat, way in row]))
            elif word == "yard":
                things[name] = ("yard", things[deed[2]][1], (deed[3], ()))
            else:
                kind, text, (rule, plays) = things[name]
                things[name] = (kind, text, (rule, (*plays, (things[deed[2]][2], deed[3]))))
        return things

    def refused(self, deed):
        """(error, value) for a deed that is refused, or None."""
        if type(deed) is not tuple or not deed or type(deed[0]) is not str or LENGTHS.get(deed[0]) != len(deed):
            return (BadDeed, deed)
        things = self.things()

        def no_thing(value):
            return (lambda: type(value) is not str or value not in things, NoThing, value)

        def wrong(name, kind):
            return (lambda: things[name][0] != kind, WrongKind, name)

        def new(value):
            return ((lambda: not is_name(value), BadName, value), (lambda: value in things, Held, value))

        def other_web(name, other):
            return (lambda: things[name][1] != things[other][1], OtherWeb, other)

        def bad_number(value, most):
            return (lambda: not is_number(value, most()), BadNumber, value)

        def last(name):
            return things[name][2][-1][0] if things[name][2] else 0

        word, name, parts = deed[0], deed[1], deed[2:]
        if word == "web":
            return first_error(*new(name)) or self.refused_text(BadWeb, Web, parts[0])
        if word == "row":
            told = first_error(*new(name), no_thing(parts[0]), wrong(parts[0], "web"))
            return told or self.refused_text(BadText, lambda text: read_puttings(Web(things[parts[0]][1]), text), parts[1])
        if word == "copy":
            return first_error(no_thing(name), *new(parts[0]))
        if word == "drop":
            return first_error(no_thing(name))
        if word == "joined":
            one, other = parts
            return first_error(
                *new(name), no_thing(one), wrong(one, "row"), no_thing(other), wrong(other, "row"), other_web(one, other),
                (lambda: len(things[one][2]) + len(things[other][2]) > 20000, TooMany, 20000))
        if word == "shifted":
            return first_error(*new(name), no_thing(parts[0]), wrong(parts[0], "row"),
                               bad_number(parts[1], lambda: 100000 - last(parts[0])))
        if word == "yard":
            return first_error(*new(name), no_thing(parts[0]), wrong(parts[0], "web"),
                               (lambda: type(parts[1]) is not str or parts[1] not in WORDS, BadRule, parts[1]))
        return first_error(no_thing(name), wrong(name, "yard"), no_thing(parts[0]), wrong(parts[0], "row"),
                           other_web(name, parts[0]), bad_number(parts[1], lambda: 2000))

    def refused_text(self, error, read, text):
        """The error that reading a text raises, as it is told by what reads it; its tests stand elsewhere."""
        try:
            read(text)
        except error as caught:
            return (error, caught.value)
        return None

    def lead(self, deed):
        self.noted = {word: number for word, number in self.noted.items() if number <= len(self.done)}
        self.done.append(deed)
        self.undone = []

    def go_to(self, number):
        while len(self.done) > number:
            self.undone.append(self.done.pop())
        while len(self.done) < number:
            self.done.append(self.undone.pop())

    def text(self):
        """The text of the desk."""
        lines = ["stand " + str(len(self.done))]
        lines += [f"note {word} {self.noted[word]}" for word in sorted(self.noted)]
        for deed in self.done + self.undone[::-1]:
            if deed[0] in ("web", "row"):
                many = len(deed[-1].split("\n"))
                lines.append(" ".join([*deed[:-1], str(many)]))
                lines.append(deed[-1])
            else:
                lines.append(" ".join([str(part) for part in deed]))
        return "\n".join(lines)

    def told(self):
        """All that can be seen of the desk."""
        seen = []
        for name, (kind, text, what) in sorted(self.things().items()):
            if kind == "yard":
                yard = plain_yard(text, *what)
                what = (what[0], yard.beat, yard.letters(), yard.standing(), tuple(yard.homes))
            seen.append((name, kind, text, what))
        notes = tuple(sorted(self.noted.items()))
        return (seen, notes, tuple(self.done), tuple(self.undone[::-1]), self.text())


def plain_yard(text, rule, plays):
    """The plain yard in which these rows were played, one behind the other."""
    yard = PlainYard(Web(text), by_rule(rule))
    for row, beats in plays:
        for beat in range(beats):
            for putting in row:
                if putting[0] == beat:
                    yard.put(putting[1])
            yard.go_on()
    return yard


def told_of(desk):
    """The same of a Desk."""
    seen = []
    for name in desk.names:
        kind, thing = desk.thing_kind(name), desk.thing_of(name)
        what = None
        if kind == "yard":
            what = (thing.rule, thing.beat, thing.letters, thing.standing, thing.homes)
        elif kind == "row":
            what = thing
        seen.append((name, kind, desk.web_of(name).text, what))
    return (seen, desk.notes(), *desk.all_deeds(), desk_text(desk))


WEB_TEXTS = ("road e u v\nroad f v w\nroad g v w", "road e u v", "road f p q\nroad e q p")
ROW_TEXTS = ("", "0 e", "0 e\n0 e\n2 e", "1 f", "0 e\n1 f e\n1 f", "0 e g\n0 e f\n3 e", "99999 e")
BAD_TEXTS = ("", "road", "road e u u", "0 x", "1 e\n0 e", "0 e\n", "road e u v\n", 7, None, ("0 e",))


def random_deed(chance, names, odd):
    """Some deed, with the names of things mostly where such are asked for; odd ones are seldom right."""
    word = chance.choice(sorted(LENGTHS) + ["play", "play", "yard", "row", "web"])

    def some(*kinds):
        return chance.choice([name for name, kind in sorted(names.items()) if kind in kinds] or ["none"])

    new = chance.choice([name for name in ("a", "b", "c", "d", "e", "f", "g", "h") if name not in names] or ["zz"])
    parts = {
        "web": lambda: (new, chance.choice(WEB_TEXTS)),
        "row": lambda: (new, some("web"), chance.choice(ROW_TEXTS)),
        "copy": lambda: (some("web", "row", "yard"), new),
        "drop": lambda: (some("web", "row", "yard"),),
        "joined": lambda: (new, some("row"), some("row")),
        "shifted": lambda: (new, some("row"), chance.choice((0, 1, 3, 90000))),
        "yard": lambda: (new, some("web"), chance.choice(sorted(WORDS))),
        "play": lambda: (some("yard"), some("row"), chance.choice((0, 1, 1, 2, 3, 6))),
    }[word]()
    deed = [word, *parts]
    while chance.random() < odd:
        place = chance.randrange(1, len(deed))
        deed[place] = chance.choice((
            "a", "b", "c", "zz", "Z", "", "toolongname", "a b", None, True, False, 0, 1, -1, 2000, 2001, 100001, 10 ** 39,
            [], {}, (), ["a"], ("a",), "eldest", "oldest", (("beat", "up"),), *BAD_TEXTS, *WEB_TEXTS[:1], *ROW_TEXTS[:2]))
    if chance.random() < odd / 8:
        deed = chance.choice((deed[:-1], [*deed, "a"], deed[1:], ["Web", *deed[1:]], [None, *deed[1:]], [], [word]))
    return deed if chance.random() < odd / 30 else tuple(deed)


def random_desk(chance, many):
    """A Desk and a plain one to which the same was done."""
    desk, plain = Desk(), PlainDesk()
    for _ in range(many):
        kinds = {name: thing[0] for name, thing in plain.things().items()}
        deed = random_deed(chance, kinds, 0)
        if plain.refused(deed) is None:
            desk.lead(deed)
            plain.lead(deed)
        if chance.random() < 0.15:
            word = chance.choice(("x", "yy", "abc", "note", "stand"))
            desk.note(word)
            plain.noted[word] = len(plain.done)
        if chance.random() < 0.05:
            number = chance.randint(0, len(plain.done))
            for _ in range(len(plain.done) - number):
                desk.undo()
            plain.go_to(number)
    return desk, plain
