"""A desk that keeps webs, rows of puttings and yards under names, goes on by deeds, and is told by a text.

A thing is (kind, web, value). No yard that a desk keeps is ever changed: one that is played is a copy. So
things may be shared, and a deed is undone by what was there ahead of it.
"""

from roadqueues.checks import is_name, is_within, number_in
from roadqueues.errors import (
    BadDeed, BadDesk, BadName, BadNumber, BadRule, Held, NoNote, NothingToRedo, NothingToUndo, NoThing, OtherWeb,
    QueueError, WrongKind,
)
from roadqueues.rates import joined, keeps_rate, read_puttings, shifted
from roadqueues.rules import is_word
from roadqueues.webs import Web
from roadqueues.yards import Yard

MOST_BEATS = 2000

# What stands behind the word of a deed; in the text of a desk a text is told by how many lines follow.
PARTS = {
    "web": ("name", "text"),
    "row": ("name", "name", "text"),
    "copy": ("name", "name"),
    "drop": ("name",),
    "joined": ("name", "name", "name"),
    "shifted": ("name", "name", "number"),
    "yard": ("name", "name", "rule"),
    "play": ("name", "name", "number"),
}


def is_deed(value):
    """Whether value is a tuple with the word of a deed, and as many parts as that has behind it."""
    if not isinstance(value, tuple) or not value or not isinstance(value[0], str):
        return False
    return value[0] in PARTS and len(value) == 1 + len(PARTS[value[0]])


def thing_at(things, name):
    """The thing of this name."""
    if not isinstance(name, str) or name not in things:
        raise NoThing(name)
    return things[name]


def thing_like(things, name, kind):
    """(web, value) of the thing of this name, which is to be of this kind."""
    found, web, value = thing_at(things, name)
    if found != kind:
        raise WrongKind(name)
    return (web, value)


def check_new(things, name):
    """Raise BadName or Held unless this is a name for a new thing."""
    if not is_name(name):
        raise BadName(name)
    if name in things:
        raise Held(name)


def done_web(things, name, text):
    """(name, thing) that the deed "web" makes; so do the functions below for their deeds."""
    check_new(things, name)
    web = Web(text)
    return (name, ("web", web, web))


def done_row(things, name, web_name, text):
    """A row, read from its text."""
    check_new(things, name)
    web, _ = thing_like(things, web_name, "web")
    return (name, ("row", web, read_puttings(web, text)))


def done_copy(things, name, other):
    """What there is, under another name."""
    thing = thing_at(things, name)
    check_new(things, other)
    return (other, thing)


def done_drop(things, name):
    """Nothing, under a name of a thing."""
    thing_at(things, name)
    return (name, None)


def done_joined(things, name, one, other):
    """One row of two."""
    check_new(things, name)
    web, row = thing_like(things, one, "row")
    other_web, other_row = thing_like(things, other, "row")
    if other_web != web:
        raise OtherWeb(other)
    return (name, ("row", web, joined(web, row, other_row)))


def done_shifted(things, name, one, beats):
    """A row at later beats."""
    check_new(things, name)
    web, row = thing_like(things, one, "row")
    return (name, ("row", web, shifted(web, row, beats)))


def done_yard(things, name, web_name, rule):
    """A yard without letters."""
    check_new(things, name)
    web, _ = thing_like(things, web_name, "web")
    if not is_word(rule):
        raise BadRule(rule)
    return (name, ("yard", web, Yard(web, rule)))


def done_play(things, name, row_name, beats):
    """A yard that has gone on, a row being put in."""
    web, yard = thing_like(things, name, "yard")
    row_web, row = thing_like(things, row_name, "row")
    if row_web != web:
        raise OtherWeb(row_name)
    if not is_within(beats, 0, MOST_BEATS):
        raise BadNumber(beats)
    return (name, ("yard", web, gone_on(yard.copy(), row, beats)))


def gone_on(yard, row, beats):
    """The yard, so many beats later; the beats of the row are counted from now on."""
    coming = 0
    for beat in range(beats):
        while coming < len(row) and row[coming][0] == beat:
            yard.put(row[coming][1])
            coming += 1
        yard.go_on()
    return yard


DEEDS = {
    "web": done_web,
    "row": done_row,
    "copy": done_copy,
    "drop": done_drop,
    "joined": done_joined,
    "shifted": done_shifted,
    "yard": done_yard,
    "play": done_play,
}


class Desk:
    """Things under names, and the deeds that made them.

    All deeds that stand or were undone are changes (deed, name, before, after): what the thing of this name
    was ahead of the deed and is behind it, None if there is none. So many of them stand as stand tells.
    """

    def __init__(self):
        self.things = {}
        self.changes = []
        self.stand = 0
        self.noted = {}

    @property
    def names(self):
        """The ascending tuple of the names of all things."""
        return tuple(sorted(self.things))

    def __len__(self):
        return len(self.things)

    def __contains__(self, value):
        # What is no string may be something that no dict can be asked for.
        return isinstance(value, str) and value in self.things

    def lead(self, deed):
        """Do a deed, which then stands; undone ones are forgotten, and notes for more than stood."""
        if not is_deed(deed):
            raise BadDeed(deed)
        word, *parts = deed
        done = DEEDS[word]
        name, after = done(self.things, *parts)
        self.noted = {noting: number for noting, number in self.noted.items() if number <= self.stand}
        del self.changes[self.stand:]
        self.changes.append((deed, name, self.things.get(name), after))
        self.go_to(self.stand + 1)

    def go_to(self, number):
        """Undo deeds, or do them again, until so many stand; there are as many."""
        while self.stand > number:
            self.stand -= 1
            _, name, before, _ = self.changes[self.stand]
            self.keep(name, before)
        while self.stand < number:
            _, name, _, after = self.changes[self.stand]
            self.keep(name, after)
            self.stand += 1

    def keep(self, name, thing):
        """Keep the thing under this name, or nothing if it is None."""
        if thing is None:
            del self.things[name]
        else:
            self.things[name] = thing

    def thing_of(self, name):
        """The Web, the row, or a copy of the Yard of this name."""
        kind, _, value = thing_at(self.things, name)
        return value.copy() if kind == "yard" else value

    def thing_kind(self, name):
        """Whether the thing of this name is a "web", a "row" or a "yard"."""
        return thing_at(self.things, name)[0]

    def web_of(self, name):
        """The web to which the thing of this name belongs."""
        return thing_at(self.things, name)[1]

    def does_keep(self, row, rate):
        """What keeps_rate tells of the row of this name."""
        web, puttings = thing_like(self.things, row, "row")
        return keeps_rate(web, puttings, rate)

    def undo(self):
        """Undo the last deed that stands."""
        if self.stand == 0:
            raise NothingToUndo(0)
        self.go_to(self.stand - 1)

    def redo(self):
        """Do the deed again that was undone last."""
        if self.stand == len(self.changes):
            raise NothingToRedo(self.stand)
        self.go_to(self.stand + 1)

    def note(self, word):
        """Let the word note how many deeds stand now."""
        if not is_name(word):
            raise BadName(word)
        self.noted[word] = self.stand

    def notes(self):
        """The ascending tuple of (word, number) of all notes."""
        return tuple(sorted(self.noted.items()))

    def back(self, word):
        """Undo deeds, or do them again, until as many stand as the word notes."""
        if not isinstance(word, str) or word not in self.noted:
            raise NoNote(word)
        self.go_to(self.noted[word])

    def all_deeds(self):
        """The deeds that stand, in their order, and those that were undone, the next one first."""
        deeds = tuple([change[0] for change in self.changes])
        return (deeds[:self.stand], deeds[self.stand:])


def desk_text(desk):
    """The text of a desk: how many deeds stand, the notes, and all deeds."""
    standing, undone = desk.all_deeds()
    lines = [f"stand {len(standing)}"]
    lines.extend([f"note {word} {number}" for word, number in desk.notes()])
    lines.extend([deed_text(deed) for deed in standing + undone])
    return "\n".join(lines)


def deed_text(deed):
    """The lines of a deed."""
    words = [str(part) for part in deed]
    if PARTS[words[0]][-1] == "text":
        text = words.pop()
        words.append(str(text.count("\n") + 1))
        return " ".join(words) + "\n" + text
    return " ".join(words)


def read_desk(text):
    """The desk with this text."""
    if not isinstance(text, str):
        raise BadDesk(0)
    lines = text.split("\n")
    words = lines[0].split(" ")
    stand = number_in(words[1]) if len(words) == 2 and words[0] == "stand" else None
    if stand is None:
        raise BadDesk(1)
    notes = read_notes(lines)
    desk = led_desk(lines, 1 + len(notes))
    many = len(desk.changes)
    if stand > many:
        raise BadDesk(1)
    for place, (word, number) in enumerate(notes):
        if number > many:
            raise BadDesk(place + 2)
        desk.noted[word] = number
    desk.go_to(stand)
    return desk


def read_notes(lines):
    """A list with (word, number) for each note that stands behind the first line."""
    notes = []
    for line in lines[1:]:
        words = line.split(" ")
        if words[0] != "note":
            break
        number = number_in(words[2]) if len(words) == 3 and is_name(words[1]) else None
        if number is None or notes and words[1] <= notes[-1][0]:
            raise BadDesk(len(notes) + 2)
        notes.append((words[1], number))
    return notes


def led_desk(lines, first):
    """A desk with all deeds of the lines from the first one on, numbered from 0; all of them stand."""
    desk = Desk()
    at = first
    while at < len(lines):
        deed, behind = read_deed(lines, at)
        try:
            desk.lead(deed)
        except QueueError:
            raise BadDesk(at + 1) from None
        at = behind
    return desk


def read_deed(lines, at):
    """(deed, behind): the deed that begins at this place among the lines, and the place behind it."""
    words = lines[at].split(" ")
    kinds = PARTS.get(words[0], ())
    if not kinds or len(words) != 1 + len(kinds):
        raise BadDesk(at + 1)
    word = words[0]
    parts = [part_in(kind, told) for kind, told in zip(kinds, words[1:])]
    if None in parts or kinds[-1] == "text" and parts[-1] == 0:
        raise BadDesk(at + 1)
    if kinds[-1] != "text":
        return ((word, *parts), at + 1)
    behind = at + 1 + parts.pop()
    if behind > len(lines):
        raise BadDesk(len(lines) + 1)
    return ((word, *parts, "\n".join(lines[at + 1:behind])), behind)


def part_in(kind, word):
    """The part of a deed of this kind that a word tells, of a text how many lines it has, or None."""
    if kind in ("number", "text"):
        return number_in(word)
    # The words of rules are names, too.
    return word if is_name(word) else None
