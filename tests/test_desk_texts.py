"""Texts of desks: to the letter, read back, and the first line that cannot stand."""

import random
import re
import unittest

from deskly import LENGTHS, PlainDesk, is_name, random_deed, random_desk, told_of
from plainly import WORDS
from roadqueues.desk import Desk, desk_text, read_desk
from roadqueues.errors import BadDesk, NothingToRedo, QueueError
from roadqueues.webs import Web
from support import ODD_VALUES, raised, same

TEXT = """stand 6
note first 3
note last 7
note none 0
web w 2
road a u v
road b v w
row r w 3
0 a b
0 a
1 b
row s w 1

yard y w eldest
copy y yy
play y r 2
joined j r s
shifted k j 99999
drop w"""
LINES = TEXT.split("\n")


def changed(number, *lines):
    """The text with this line replaced by others, if there are any; lines are numbered from 1."""
    return "\n".join([*LINES[:number - 1], *lines, *LINES[number:]])


def number_of(word):
    """The number that a word writes, or None."""
    return int(word) if re.fullmatch("0|[1-9][0-9]{0,8}", word) else None


def bad_line(text):
    """The number of the line that read_desk tells, or None, by going through the text with a plain desk."""
    lines = text.split("\n")
    head = re.fullmatch("stand ([0-9]+)", lines[0])
    if head is None or number_of(head[1]) is None:
        return 1
    plain, notes, at = PlainDesk(), [], 1
    while at < len(lines) and lines[at].split(" ")[0] == "note":
        found = re.fullmatch("note ([a-z]{1,8}) ([0-9]+)", lines[at])
        if found is None or number_of(found[2]) is None or notes and not notes[-1][1] < found[1]:
            return at + 1
        notes.append((at + 1, found[1], number_of(found[2])))
        at += 1
    while at < len(lines):
        words = lines[at].split(" ")
        if LENGTHS.get(words[0]) != len(words):
            return at + 1
        first, word, names = at + 1, words[0], words[1:]
        at += 1
        last = number_of(names[-1])
        if word in ("web", "row"):
            if not all([is_name(name) for name in names[:-1]]) or last is None or last == 0:
                return first
            if at + last > len(lines):
                return len(lines) + 1
            names[-1] = "\n".join(lines[at:at + last])
            at += last
        elif word in ("shifted", "play"):
            if last is None:
                return first
            names[-1] = last
        if not all([is_name(name) for name in names[:-1]]) or word in ("copy", "drop", "joined") and not is_name(names[-1]):
            return first
        deed = (word, *names)
        if plain.refused(deed) is not None:
            return first
        plain.lead(deed)
    for line, number in [(1, number_of(head[1])), *[(line, number) for line, _, number in notes]]:
        if number > len(plain.done):
            return line
    return None


class Texts(unittest.TestCase):
    def test_the_empty_desk(self):
        same(self, desk_text(Desk()), "stand 0")
        desk = read_desk("stand 0")
        self.assertIs(type(desk), Desk)
        same(self, told_of(desk), told_of(Desk()))

    def test_to_the_letter(self):
        desk = Desk()
        desk.note("none")
        desk.lead(("web", "w", "road a u v\nroad b v w"))
        desk.lead(("row", "r", "w", "0 a b\n0 a\n1 b"))
        desk.lead(("row", "s", "w", ""))
        desk.note("first")
        for deed in (("yard", "y", "w", "eldest"), ("copy", "y", "yy"), ("play", "y", "r", 2), ("joined", "j", "r", "s")):
            desk.lead(deed)
        desk.note("last")
        desk.lead(("shifted", "k", "j", 99999))
        desk.lead(("drop", "w"))
        for _ in range(3):
            desk.undo()
        same(self, desk_text(desk), TEXT)
        same(self, desk_text(desk=desk), TEXT)

    def test_it_is_read_back(self):
        desk = read_desk(TEXT)
        same(self, desk_text(desk), TEXT)
        same(self, [desk.names, desk.notes()], [("r", "s", "w", "y", "yy"), (("first", 3), ("last", 7), ("none", 0))])
        same(self, [len(deeds) for deeds in desk.all_deeds()], [6, 3])
        same(self, desk.all_deeds()[0][1:3], (("row", "r", "w", "0 a b\n0 a\n1 b"), ("row", "s", "w", "")))
        same(self, desk.all_deeds()[1], (("joined", "j", "r", "s"), ("shifted", "k", "j", 99999), ("drop", "w")))
        same(self, [desk.thing_of("y").beat, desk.thing_of("yy").beat, desk.thing_of("s")], [2, 0, ()])
        desk.back("last")
        same(self, "j" in desk, True)
        desk.redo()
        desk.redo()
        same(self, ["w" in desk, desk.thing_of("k")[-1]], [False, (100000, ("b",))])
        raised(self, NothingToRedo, 9, desk.redo)
        same(self, desk_text(read_desk(text=TEXT)), TEXT)

    def test_words_that_are_those_of_deeds(self):
        text = "stand 2\nnote copy 1\nnote note 2\nnote stand 0\nweb web 1\nroad road row web\nrow row web 2\n0 road\n1 road"
        desk = read_desk(text)
        same(self, [desk_text(desk), desk.names], [text, ("row", "web")])

    def test_there_and_back(self):
        for seed in range(120):
            chance = random.Random(seed)
            desk, plain = random_desk(chance, chance.randint(0, 40))
            text = desk_text(desk)
            same(self, text, plain.text())
            self.assertIsNone(bad_line(text))
            other = read_desk(text)
            same(self, told_of(other), told_of(desk))
            same(self, told_of(other), plain.told())
            # Both go on alike, and by themselves.
            for _ in range(12):
                before = told_of(desk)
                step = chance.choice(("undo", "redo", "lead", "note", "back"))
                passed = {
                    "lead": lambda: [random_deed(chance, {name: desk.thing_kind(name) for name in desk.names}, 0.1)],
                    "note": lambda: [chance.choice("xyz")], "back": lambda: [chance.choice([*[word for word, _ in desk.notes()], "q"])],
                }.get(step, list)()
                told = []
                for one in (other, desk):
                    try:
                        told.append(getattr(one, step)(*passed))
                    except QueueError as error:
                        told.append((type(error).__name__, error.value))
                    if one is other:
                        same(self, told_of(desk), before)
                same(self, told[0], told[1])
                same(self, told_of(other), told_of(desk))

    def test_all_rules(self):
        for word in WORDS:
            text = f"stand 2\nweb w 1\nroad a u v\nyard y w {word}"
            same(self, [desk_text(read_desk(text)), read_desk(text).thing_of("y").rule], [text, word])

    def test_great_texts(self):
        desk = Desk()
        desk.lead(("web", "w", "road abcdefgh u v"))
        desk.lead(("row", "r", "w", "\n".join(["0 abcdefgh"] * 20000)))
        for name in ("s", "t"):
            desk.lead(("copy", "r", name))
        text = desk_text(desk)
        same(self, desk_text(read_desk(text)) == text, True)


class BrokenTexts(unittest.TestCase):
    def bad(self, text, number):
        with self.subTest(text=text):
            raised(self, BadDesk, number, read_desk, text)
            if type(text) is str:
                same(self, bad_line(text), number)

    def test_what_is_no_string(self):
        for text in (*ODD_VALUES, LINES, tuple(LINES), Desk(), Web("road a u v")):
            self.bad(text, 0)

    def test_the_line_stand(self):
        for line in ("", "stand", "stand ", "stand  6", " stand 6", "stand 6 ", "Stand 6", "stand 06", "stand +6", "stand -6", "stand six",
                     "stand 6 6", "6", "stand 1000000000", "note none 0", "web w 2", "stand 6.0", "stand 00", "stand -0", "stand six6"):
            self.bad(changed(1, line), 1)
        self.bad("", 1)
        self.bad("\n" + TEXT, 1)
        self.bad("\n".join(LINES[1:]), 1)
        self.bad("\n".join([LINES[1], LINES[0], *LINES[2:]]), 1)

    def test_lines_of_notes(self):
        for line in ("note", "note last", "note last ", "note  last 7", "note last  7", "note last 7 ", " note last 7", "note Last 7",
                     "note last 07", "note last -7", "note last +7", "note last x", "note last 7 7", "note 7 last", "note last7 7",
                     "note ninenames 7", "note  7", "note last 1000000000", "note first 7", "note fa 7", "note a 7", "notes last 7", "",
                     "stand 6", "note first 3"):
            self.bad(changed(3, line), 3)
        self.bad("\n".join(LINES[:4] + ["note none 0"] + LINES[4:]), 5)
        self.bad("\n".join(LINES[:4] + ["note nona 0"] + LINES[4:]), 5)
        self.bad("\n".join(LINES[:7] + ["note z 0"] + LINES[7:]), 8)
        self.bad(TEXT + "\nnote z 0", len(LINES) + 1)

    def test_lines_of_deeds(self):
        for line in ("", "copy", "copy y", "copy y yy z", "copy  y yy", "copy y  yy", "copy y yy ", " copy y yy", "Copy y yy", "copy y Yy",
                     "copy y ninenames", "copy Y yy", "copy n yy", "copy y w", "copy y y", "copy y 7", "undo", "stand 6", "note z 0", "drop",
                     "drop n", "drop y y", "drop 7", "yard n w oldest", "yard n w", "yard n w eldest ", "yard n  eldest", "yard w w eldest",
                     "yard n r eldest", "yard n w Eldest", "yard n w 1", "yard n w eldest 1", "yard n w ", "play y r", "play y r 01",
                     "play y r -1", "play y r +1", "play y r 2001", "play y r 1000000000", "play y r x", "play y r 1 1", "play y  1",
                     "play r y 1", "play y w 1", "play n r 1", "play y r 1 ", "play y r 1.0", "shifted n r 100000", "shifted n r 00",
                     "shifted n r -1", "shifted n r", "shifted n y 1", "shifted n r x", "shifted r r 1", "joined n r", "joined n r y",
                     "joined n r n", "joined r r s", "joined n r s s", "joined n r 7"):
            self.bad(changed(15, line), 15)
        same(self, desk_text(read_desk(changed(15, "play y r 2000"))), changed(15, "play y r 2000"))

    def test_lines_of_webs_and_rows(self):
        for line in ("web", "web w", "web w 02", "web w 0", "web w -2", "web w +2", "web w two", "web w 1000000000", "web W 2", "web  2",
                     "web w 2 ", "web w  2", "web ninenames 2", "web 2 w", "web w 2 2", "web w 3", "web w 4", "row w 2", " web w 2"):
            self.bad(changed(5, line), 5)
        for line in ("row r w", "row r w 0", "row r w 03", "row r w -3", "row r 3", "row R w 3", "row r W 3", "row r n 3", "row w w 3",
                     "row r w 3 ", "row r  w 3", "row r w 1000000000", "row r w 4", "row 3 w 3", "row r r 3", "row r w w 3"):
            self.bad(changed(8, line), 8)
        # With fewer lines the next one is that of no deed.
        self.bad(changed(5, "web w 1"), 7)
        self.bad(changed(8, "row r w 2"), 11)
        # A text is refused at the first line of its deed, wherever it is broken.
        for number, line in ((6, "road a u u"), (7, "road a v w"), (7, ""), (6, " road a u v"), (7, "road b v w ")):
            self.bad(changed(number, line), 5)
        for number, line in ((9, "0 b a"), (11, "1 c"), (11, ""), (10, "2 a"), (10, "00 a"), (9, "0  a b")):
            self.bad(changed(number, line), 8)
        self.bad(changed(13, "x"), 12)

    def test_lines_that_are_lacking(self):
        many = len(LINES)
        for line in ("row n w 2\n0 a", "row n w 999999999\n0 a", "row n w 3\n0 a\n", "web n 2\nroad a u v", "web n 3\nx\nx",
                     # Whatever would be refused of this deed.
                     "web w 2\nx", "row r n 2\nx", "row n n 2\nx", "row n y 2\n", "web n 9\nroad a u u"):
            self.bad(TEXT + "\n" + line, many + line.count("\n") + 2)
        for line in ("web n 1", "row n w 1", "row n w 999999999", "row w w 1"):
            self.bad(TEXT + "\n" + line, many + 2)
        self.bad("stand 9\nweb w 1", 3)
        self.bad("stand 0\nnote a 5\nweb w 2\nroad a u v", 5)
        # What stands ahead of them is told ahead of them, and so is the line itself.
        self.bad(changed(15, "drop n") + "\nweb n 5", 15)
        for line in ("web N 5", "web n 05", "row n W 5", "web n  5", "row n w", "row n w 5 ", "web n 0"):
            self.bad(TEXT + "\n" + line, many + 1)

    def test_a_line_feed_at_the_end(self):
        self.bad(TEXT + "\n", len(LINES) + 1)
        self.bad("stand 0\n", 2)
        self.bad("stand 0\n\n", 2)
        # An empty line may be the text of a row.
        text = "stand 2\nweb w 1\nroad a u v\nrow r w 1\n"
        same(self, [desk_text(read_desk(text)), read_desk(text).thing_of("r")], [text, ()])
        self.bad(text + "\n", 6)

    def test_numbers_that_are_too_great(self):
        same(self, desk_text(read_desk(changed(1, "stand 9"))), changed(1, "stand 9"))
        for number in (10, 11, 999999999):
            self.bad(changed(1, f"stand {number}"), 1)
            self.bad(changed(2, f"note first {number}"), 2)
            self.bad(changed(4, f"note none {number}"), 4)
            same(self, read_desk(changed(4, "note none 9")).notes()[2], ("none", 9))
            # This is told only if all else can stand, stand first, then notes in their order.
            text = changed(4, f"note none {number}").replace("last 7", f"last {number}")
            self.bad(text, 3)
            self.bad(text.replace("stand 6", f"stand {number}"), 1)
            self.bad(text.replace("stand 6", f"stand {number}").replace("drop w", "drop x"), len(LINES))
            self.bad(text.replace("stand 6", f"stand {number}").replace("road b v w", "road b v v"), 5)
            self.bad(text.replace("stand 6", f"stand {number}") + "\n", len(LINES) + 1)
            self.bad(text.replace("stand 6", f"stand {number}") + "\nweb n 1", len(LINES) + 2)
            self.bad(text.replace("note first 3", "note first 03"), 2)

    def test_several_wrong_at_once(self):
        self.bad(changed(1, "stand").replace("note first 3", "note"), 1)
        self.bad(changed(2, "note").replace("web w 2", "web"), 2)
        self.bad(changed(5, "web w 1").replace("drop w", "drop"), 7)
        self.bad(changed(14, "yard y n eldest").replace("copy y yy", "copy y"), 14)

    def test_texts_by_chance(self):
        numbers = set()
        for seed in range(2500):
            chance = random.Random(seed)
            text = desk_text(random_desk(chance, 14)[0])
            for _ in range(chance.choice((1, 1, 2))):
                text = spoilt(chance, text)
            number = bad_line(text)
            if number is None:
                same(self, desk_text(read_desk(text)), text)
            else:
                raised(self, BadDesk, number, read_desk, text)
            numbers.add(number)
        self.assertGreater(len(numbers), 20)
        self.assertIn(None, numbers)


def spoilt(chance, text):
    """The text with some small change."""
    lines = text.split("\n")
    at = chance.randrange(len(lines))
    other = chance.randrange(len(lines))
    kind = chance.randint(0, 7)
    if kind == 0:
        lines.pop(at)
    elif kind == 1:
        lines.insert(at, lines[other])
    elif kind == 2:
        lines[at], lines[other] = lines[other], lines[at]
    elif kind == 3:
        lines.insert(at, chance.choice(("", "note a 0", "stand 1", "drop a", "copy a q", "web q 1", "row q a 1", "0 e")))
    elif kind == 4:
        lines = lines[:at + 1]
    else:
        words = lines[at].split(" ")
        place = chance.randrange(len(words))
        if kind == 5 and words[place].isdigit():
            words[place] = str(int(words[place]) + chance.choice((-1, 1, 1, 2, 9)))
        else:
            words[place] = chance.choice(("", "a", "b", "web", "1", "0", "A", "eldest", words[place] + "a", "0" + words[place]))
        lines[at] = " ".join(words)
    return "\n".join(lines)


if __name__ == "__main__":
    unittest.main()
