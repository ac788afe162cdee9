"""Desks: deeds, what they refuse, undoing, notes, beside a desk of plain lists."""

import random
import unittest

from deskly import LENGTHS, PlainDesk, random_deed, random_desk, told_of
from plainly import WORDS
from roadqueues.desk import Desk
from roadqueues.errors import (
    BadDeed, BadName, BadNumber, BadRate, BadRule, BadText, BadWeb, Held, NoNote, NothingToRedo, NothingToUndo, NoThing,
    OtherWeb, TooMany, WrongKind,
)
from roadqueues.rates import keeps_rate
from roadqueues.webs import Web
from roadqueues.yards import Yard
from support import ODD_VALUES, raised, raised_with, same

TEXT = "road a u v\nroad b v w"
OTHER = "road b v w\nroad a u v"
ROW = ((0, ("a", "b")), (0, ("a",)), (1, ("b",)))


def led(*deeds):
    """A desk with these deeds."""
    desk = Desk()
    for deed in deeds:
        desk.lead(deed)
    return desk


def full_desk():
    """A desk with two webs, w and x, rows r and s of w and t of x, and yards y of w and z of x."""
    return led(
        ("web", "w", TEXT), ("web", "x", OTHER), ("row", "r", "w", "0 a b\n0 a\n1 b"), ("row", "s", "w", ""),
        ("row", "t", "x", "0 a"), ("yard", "y", "w", "eldest"), ("yard", "z", "x", "last"), ("play", "y", "r", 1))


class Deeds(unittest.TestCase):
    def test_a_new_desk(self):
        desk = Desk()
        same(self, [desk.names, len(desk), desk.notes(), desk.all_deeds(), "a" in desk], [(), 0, (), ((), ()), False])

    def test_webs_rows_and_yards(self):
        desk = full_desk()
        same(self, [desk.names, len(desk)], [("r", "s", "t", "w", "x", "y", "z"), 7])
        same(self, [desk.thing_kind(name) for name in desk.names], ["row", "row", "row", "web", "web", "yard", "yard"])
        self.assertEqual(type(desk.thing_of("w")), Web)
        same(self, [desk.thing_of("w").text, desk.thing_of("x").text], [TEXT, OTHER])
        same(self, [desk.thing_of("r"), desk.thing_of("s"), desk.thing_of("t")], [ROW, (), ((0, ("a",)),)])
        self.assertEqual(type(desk.thing_of("y")), Yard)
        same(self, [desk.thing_of("y").rule, desk.thing_of("z").rule, desk.thing_of("z").beat], ["eldest", "last", 0])
        same(self, [desk.web_of(name).text for name in desk.names], [TEXT, TEXT, OTHER, TEXT, OTHER, TEXT, OTHER])
        self.assertEqual({type(desk.web_of(name)) for name in desk.names}, {Web})
        for word in WORDS:
            desk.lead(("yard", word[:7] + "x", "w", word))
        same(self, sorted([desk.thing_of(name).rule for name in desk.names if desk.thing_kind(name) == "yard"]),
             sorted([*WORDS, "eldest", "last"]))

    def test_all_deeds_return_none(self):
        desk = Desk()
        for deed in (("web", "w", TEXT), ("row", "r", "w", "3 a"), ("yard", "y", "w", "gone"), ("copy", "r", "s"),
                     ("joined", "j", "r", "s"), ("shifted", "k", "j", 4), ("play", "y", "k", 9), ("drop", "j")):
            self.assertIsNone(desk.lead(deed))
        same(self, [desk.thing_of("k"), desk.names], [((7, ("a",)), (7, ("a",))), ("k", "r", "s", "w", "y")])
        for told in (desk.note("n"), desk.undo(), desk.redo(), desk.back("n")):
            self.assertIsNone(told)

    def test_what_is_in_a_desk(self):
        desk = full_desk()
        for name in desk.names:
            same(self, name in desk, True)
        for value in (*ODD_VALUES, "", "v", "R", "ww", Web(TEXT), desk, ("w",), ["w"]):
            same(self, value in desk, False)
        desk.lead(("drop", "w"))
        same(self, ["w" in desk, len(desk)], [False, 6])

    def test_things_belong_to_the_web_that_they_were_made_for(self):
        desk = full_desk()
        for deed in (("drop", "w"), ("web", "w", "road c p q"), ("copy", "r", "rr")):
            desk.lead(deed)
        same(self, [desk.web_of(name).text for name in ("w", "r", "rr", "y")], ["road c p q", TEXT, TEXT, TEXT])
        desk.lead(("play", "y", "rr", 1))
        raised(self, BadText, 1, desk.lead, ("row", "q", "w", "0 a"))

    def test_equal_webs_that_are_not_the_same_object(self):
        desk = full_desk()
        desk.lead(("drop", "w"))
        desk.lead(("web", "w", TEXT))
        desk.lead(("web", "v", TEXT))
        desk.lead(("row", "q", "v", "2 b"))
        desk.lead(("joined", "j", "q", "r"))
        same(self, [desk.thing_of("j"), desk.web_of("j").text], [(*ROW, (2, ("b",))), TEXT])
        desk.lead(("yard", "n", "v", "first"))
        desk.lead(("play", "n", "r", 2))
        desk.lead(("play", "y", "q", 3))
        same(self, [len(desk.thing_of("n").letters), desk.thing_of("y").letters[-1]], [3, (3, ("b",))])

    def test_joined_and_shifted(self):
        desk = full_desk()
        for deed in (("row", "q", "w", "0 b\n1 a"), ("joined", "j", "r", "q"), ("joined", "k", "q", "r"), ("joined", "l", "r", "r"),
                     ("shifted", "m", "r", 99999), ("shifted", "n", "s", 100000), ("shifted", "o", "r", 0)):
            desk.lead(deed)
        a, b, ab = ("a",), ("b",), ("a", "b")
        same(self, [desk.thing_of(name) for name in "jklmno"], [
            ((0, ab), (0, a), (0, b), (1, b), (1, a)), ((0, b), (0, ab), (0, a), (1, a), (1, b)),
            ((0, ab), (0, a), (0, ab), (0, a), (1, b), (1, b)), ((99999, ab), (99999, a), (100000, b)), (), ROW])

    def test_play_behind_play(self):
        desk = led(("web", "w", TEXT), ("row", "r", "w", "0 a b\n0 a\n1 b\n5 a"), ("yard", "y", "w", "eldest"))
        plain = Yard(Web(TEXT), "eldest")
        for beats in (0, 2, 0, 1, 1, 3, 6, 0, 40):
            desk.lead(("play", "y", "r", beats))
            for beat in range(beats):
                for at, way in ((0, ("a", "b")), (0, ("a",)), (1, ("b",)), (5, ("a",))):
                    if at == beat:
                        plain.put(way)
                plain.go_on()
            yard = desk.thing_of("y")
            same(self, [yard.beat, yard.letters, yard.standing, yard.homes],
                 [plain.beat, plain.letters, plain.standing, plain.homes])
        same(self, len(plain.letters), 3 + 2 + 2 + 3 + 4 + 4)

    def test_letters_behind_the_told_beats_are_not_put_in(self):
        desk = led(("web", "w", TEXT), ("row", "r", "w", "0 a\n3 b\n4 b"), ("yard", "y", "w", "eldest"))
        for beats, letters in ((0, 0), (3, 1), (4, 3), (5, 6), (2000, 9)):
            desk.lead(("play", "y", "r", beats))
            same(self, len(desk.thing_of("y").letters), letters)
        same(self, desk.thing_of("y").beat, 2012)

    def test_what_was_copied_does_not_change(self):
        desk = full_desk()
        desk.lead(("copy", "y", "c"))
        before = told_of(desk)[0]
        desk.lead(("play", "y", "r", 3))
        behind = told_of(desk)[0]
        same(self, [one for one in behind if one[0] != "y"], [one for one in before if one[0] != "y"])
        self.assertNotEqual(behind, before)
        desk.lead(("play", "c", "r", 3))
        same(self, [desk.thing_of("c").homes, desk.thing_of("c").beat], [desk.thing_of("y").homes, 4])
        desk.lead(("drop", "y"))
        same(self, desk.thing_of("c").beat, 4)

    def test_what_was_taken_does_not_change_nor_the_desk_by_it(self):
        desk = full_desk()
        taken = [desk.thing_of("y"), desk.thing_of("y"), desk.thing_of("r"), desk.thing_of("w")]
        self.assertIsNot(taken[0], taken[1])
        before = told_of(desk)
        taken[0].put(("b",))
        taken[0].go_on()
        same(self, told_of(desk), before)
        same(self, [taken[1].beat, len(taken[1].letters)], [1, 2])
        desk.lead(("play", "y", "r", 5))
        desk.undo()
        desk.lead(("drop", "y"))
        desk.lead(("drop", "r"))
        same(self, [taken[0].beat, taken[1].beat, taken[2], taken[3].text], [2, 1, ROW, TEXT])
        same(self, [number for _, number in taken[1].go_on()], [1, 0])

    def test_does_keep(self):
        desk = full_desk()
        for rate in ((1, 2, 1), (1, 2, 2), (1, 3, 1), (9, 10, 50)):
            same(self, desk.does_keep("r", rate), keeps_rate(Web(TEXT), ROW, rate))
        same(self, desk.does_keep("r", (1, 2, 1)), ("broken", "a", 0, 0, 2))
        same(self, [desk.does_keep("s", (1, 2, 1)), desk.does_keep(rate=(1, 2, 1), row="t")], [("kept",), ("kept",)])


class Refused(unittest.TestCase):
    def refused(self, desk, error, value, deed):
        """The deed is refused with this error, and changes nothing."""
        desk.lead(("web", "gone", TEXT))
        desk.note("here")
        desk.lead(("drop", "gone"))
        desk.undo()
        before = told_of(desk)
        with self.subTest(deed=deed):
            with self.assertRaises(error) as caught:
                desk.lead(deed)
            self.assertIs(type(caught.exception), error)
            if error in (BadDeed, NoThing, BadName):
                self.assertIs(caught.exception.value, value)
            same(self, caught.exception.value, value)
            same(self, told_of(desk), before)
        desk.undo()

    def test_what_is_no_deed(self):
        desk = full_desk()
        words = [(word,) + ("w",) * many for word, length in LENGTHS.items() for many in (0, 1, 2, 3, 4, 5) if many != length - 1]
        for deed in (*ODD_VALUES, "", "drop", "drop w", desk, ["drop", "w"], ("Drop", "w"), ("drop ", "w"), ("", "w"), (None, "w"),
                     (["drop"], "w"), (("drop", "w"),), ("undo",), ("note", "w"), ("stand", "w"), ({}, "w"), (1, 2, 3, 4),
                     (True, "w"), (Web(TEXT), "w"), (desk, "w"), *words):
            self.refused(desk, BadDeed, deed, deed)

    def test_new_names(self):
        desk = full_desk()
        rows = (
            lambda name: ("web", name, None), lambda name: ("row", name, None, None), lambda name: ("copy", "w", name),
            lambda name: ("joined", name, None, None), lambda name: ("shifted", name, None, None),
            lambda name: ("yard", name, None, None),
        )
        for deed in rows:
            for name in (*ODD_VALUES, "", "A", "a1", "a b", "ninenames", " a", "a\n", Web(TEXT), ("w",), ["w"]):
                self.refused(desk, BadName, name, deed(name))
            for name in desk.names:
                self.refused(desk, Held, name, deed(name))

    def test_names_of_things(self):
        desk = full_desk()
        deeds = (
            (lambda name: ("row", "n", name, None), ("web",)), (lambda name: ("copy", name, None), None),
            (lambda name: ("drop", name), None), (lambda name: ("joined", "n", name, None), ("row",)),
            (lambda name: ("joined", "n", "r", name), ("row",)), (lambda name: ("shifted", "n", name, None), ("row",)),
            (lambda name: ("yard", "n", name, None), ("web",)), (lambda name: ("play", name, None, None), ("yard",)),
            (lambda name: ("play", "y", name, None), ("row",)),
        )
        for deed, kinds in deeds:
            for name in (*ODD_VALUES, "", "W", "n", "ninenames", "no such", Web(TEXT), ("w",), ["r"]):
                self.refused(desk, NoThing, name, deed(name))
            for name in desk.names if kinds else ():
                if desk.thing_kind(name) not in kinds:
                    self.refused(desk, WrongKind, name, deed(name))

    def test_texts(self):
        desk = full_desk()
        for text, number in ((None, 0), (7, 0), (("road a u v",), 0), ("", 1), ("road a u u", 1), (TEXT + "\n", 3), (TEXT + "\n" + TEXT, 3)):
            self.refused(desk, BadWeb, number, ("web", "n", text))
        for text, number in ((None, 0), (["0 a"], 0), ("0 b a", 1), ("0 a\n", 2), ("1 a\n0 a", 2), ("\n", 1), ("0 c", 1), ("00 a", 1)):
            self.refused(desk, BadText, number, ("row", "n", "w", text))

    def test_other_webs(self):
        desk = full_desk()
        self.refused(desk, OtherWeb, "t", ("joined", "n", "r", "t"))
        self.refused(desk, OtherWeb, "r", ("joined", "n", "t", "r"))
        self.refused(desk, OtherWeb, "t", ("play", "y", "t", 1))
        self.refused(desk, OtherWeb, "s", ("play", "z", "s", None))

    def test_numbers_and_rules(self):
        desk = full_desk()
        for beats in (*[value for value in ODD_VALUES if value not in (0, 1) or type(value) is bool], "1", 2001, -1, 1.0):
            self.refused(desk, BadNumber, beats, ("play", "y", "r", beats))
        for beats in (*[value for value in ODD_VALUES if value not in (0, 1) or type(value) is bool], "1", 100000, -1, 1.0):
            self.refused(desk, BadNumber, beats, ("shifted", "n", "r", beats))
        self.refused(desk, BadNumber, 100001, ("shifted", "n", "s", 100001))
        for rule in (*ODD_VALUES, "", "oldest", "Eldest", (("beat", "up"),), (("left", "down"), ("number", "up")), (), (1, 2)):
            self.refused(desk, BadRule, rule, ("yard", "n", "w", rule))

    def test_too_many_letters(self):
        text = "\n".join(["0 a"] * 10001)
        desk = led(("web", "w", "road a u v"), ("row", "r", "w", text), ("row", "s", "w", text[4:]))
        desk.lead(("joined", "j", "s", "s"))
        same(self, len(desk.thing_of("j")), 20000)
        self.refused(desk, TooMany, 20000, ("joined", "n", "r", "s"))
        self.refused(desk, TooMany, 20000, ("joined", "n", "r", "r"))

    def test_what_is_told_first(self):
        desk = full_desk()
        self.refused(desk, BadName, "", ("web", "", "x"))
        self.refused(desk, Held, "w", ("web", "w", "x"))
        self.refused(desk, BadName, 1, ("row", 1, "no", None))
        self.refused(desk, Held, "w", ("row", "w", "no", None))
        self.refused(desk, NoThing, "no", ("row", "n", "no", None))
        self.refused(desk, WrongKind, "r", ("row", "n", "r", None))
        self.refused(desk, NoThing, "no", ("copy", "no", "w"))
        self.refused(desk, BadName, "W", ("copy", "w", "W"))
        self.refused(desk, Held, "w", ("copy", "w", "w"))
        self.refused(desk, Held, "w", ("joined", "w", "no", "no"))
        self.refused(desk, NoThing, "no", ("joined", "n", "no", "x"))
        self.refused(desk, WrongKind, "w", ("joined", "n", "w", "no"))
        self.refused(desk, NoThing, "no", ("joined", "n", "r", "no"))
        self.refused(desk, WrongKind, "z", ("joined", "n", "r", "z"))
        self.refused(desk, BadName, None, ("shifted", None, "no", -1))
        self.refused(desk, NoThing, "no", ("shifted", "n", "no", -1))
        self.refused(desk, WrongKind, "y", ("shifted", "n", "y", -1))
        self.refused(desk, NoThing, "no", ("yard", "n", "no", "x"))
        self.refused(desk, WrongKind, "y", ("yard", "n", "y", "x"))
        self.refused(desk, NoThing, "no", ("play", "no", "no", -1))
        self.refused(desk, WrongKind, "r", ("play", "r", "no", -1))
        self.refused(desk, NoThing, "no", ("play", "y", "no", -1))
        self.refused(desk, WrongKind, "w", ("play", "y", "w", -1))
        self.refused(desk, OtherWeb, "t", ("play", "y", "t", -1))

    def test_what_is_asked_of_things(self):
        desk = full_desk()
        before = told_of(desk)
        for value in (*ODD_VALUES, "", "W", "n", "no such", Web(TEXT), desk, ("w",), ["w"]):
            for function in (desk.thing_of, desk.thing_kind, desk.web_of):
                raised_with(self, NoThing, function, value, value)
            raised_with(self, NoThing, desk.does_keep, value, value, None)
        for name in ("w", "y"):
            raised(self, WrongKind, name, desk.does_keep, name, None)
        for rate in (*ODD_VALUES, (1, 2), (1, 2, True), (2, 2, 1), [1, 2, 1]):
            raised_with(self, BadRate, desk.does_keep, rate, "r", rate)
        for word in (*ODD_VALUES, "", "A", "a1", "ninenames", "a b", Web(TEXT)):
            raised_with(self, BadName, desk.note, word, word)
        for word in (*ODD_VALUES, "", "A", "w", "note", Web(TEXT), ["n"]):
            raised_with(self, NoNote, desk.back, word, word)
        same(self, told_of(desk), before)


class Undone(unittest.TestCase):
    def test_nothing_to_undo_or_to_redo(self):
        desk = Desk()
        raised(self, NothingToUndo, 0, desk.undo)
        raised(self, NothingToRedo, 0, desk.redo)
        desk.lead(("web", "w", TEXT))
        raised(self, NothingToRedo, 1, desk.redo)
        desk.lead(("drop", "w"))
        raised(self, NothingToRedo, 2, desk.redo)
        desk.undo()
        desk.undo()
        raised(self, NothingToUndo, 0, desk.undo)
        desk.redo()
        desk.redo()
        raised(self, NothingToRedo, 2, desk.redo)
        same(self, [desk.names, desk.all_deeds()], [(), ((("web", "w", TEXT), ("drop", "w")), ())])

    def test_each_deed_is_undone_and_done_again(self):
        desk = full_desk()
        for deed in (("copy", "y", "c"), ("play", "c", "r", 4), ("joined", "j", "r", "r"), ("shifted", "k", "j", 7), ("drop", "y"),
                     ("drop", "w"), ("web", "y", "road p q r")):
            desk.lead(deed)
        seen = []
        while desk.all_deeds()[0]:
            seen.append(told_of(desk)[0])
            desk.undo()
        same(self, [len(desk), len(desk.all_deeds()[1])], [0, 15])
        while seen:
            desk.redo()
            same(self, told_of(desk)[0], seen.pop())

    def test_a_new_deed_forgets_undone_ones_and_notes_for_more(self):
        desk = led(("web", "a", TEXT), ("web", "b", TEXT), ("web", "c", TEXT))
        for word in ("three", "too"):
            desk.note(word)
        desk.undo()
        desk.note("two")
        desk.undo()
        desk.note("one")
        desk.redo()
        same(self, desk.notes(), (("one", 1), ("three", 3), ("too", 3), ("two", 2)))
        desk.lead(("web", "d", TEXT))
        same(self, desk.notes(), (("one", 1), ("two", 2)))
        same(self, [desk.names, desk.all_deeds()[1]], [("a", "b", "d"), ()])
        raised(self, NoNote, "three", desk.back, "three")
        desk.note("one")
        same(self, desk.notes(), (("one", 3), ("two", 2)))

    def test_back_goes_on_too(self):
        desk = Desk()
        desk.note("begin")
        for deed in (("web", "w", TEXT), ("row", "r", "w", "0 a"), ("yard", "y", "w", "last"), ("play", "y", "r", 1)):
            desk.lead(deed)
        desk.note("end")
        before = told_of(desk)
        desk.back("begin")
        same(self, [desk.names, desk.notes(), len(desk.all_deeds()[1])], [(), (("begin", 0), ("end", 4)), 4])
        desk.back("begin")
        desk.back("end")
        same(self, told_of(desk), before)
        desk.undo()
        desk.back("end")
        same(self, told_of(desk), before)

    def test_beside_plain_lists(self):
        refused = {}
        for seed in range(150):
            chance = random.Random(seed)
            desk, plain = Desk(), PlainDesk()
            for _ in range(60):
                kind = chance.random()
                if kind < 0.6:
                    kinds = {name: thing[0] for name, thing in plain.things().items()}
                    deed = random_deed(chance, kinds, chance.choice((0, 0, 0, 0.5)))
                    told = plain.refused(deed)
                    if told is None:
                        self.assertIsNone(desk.lead(deed))
                        plain.lead(deed)
                    else:
                        raised(self, told[0], told[1], desk.lead, deed)
                        refused[told[0]] = refused.get(told[0], 0) + 1
                elif kind < 0.8:
                    step = chance.choice((-1, -1, 1))
                    there = plain.done if step < 0 else plain.undone
                    if there:
                        self.assertIsNone(desk.undo() if step < 0 else desk.redo())
                        plain.go_to(len(plain.done) + step)
                    elif step < 0:
                        raised(self, NothingToUndo, 0, desk.undo)
                    else:
                        raised(self, NothingToRedo, len(plain.done), desk.redo)
                else:
                    word = chance.choice(("m", "n", "o", "p"))
                    if kind < 0.92:
                        desk.note(word)
                        plain.noted[word] = len(plain.done)
                    elif word in plain.noted:
                        desk.back(word)
                        plain.go_to(plain.noted[word])
                    else:
                        raised(self, NoNote, word, desk.back, word)
                if chance.random() < 0.3:
                    same(self, told_of(desk), plain.told())
            same(self, told_of(desk), plain.told())
        self.assertTrue({BadDeed, BadName, BadNumber, BadRule, BadText, BadWeb, Held, NoThing, OtherWeb, WrongKind} <= set(refused))

    def test_many_deeds(self):
        desk = led(("web", "w", TEXT), ("row", "r", "w", "0 a b"), ("yard", "y", "w", "eldest"))
        desk.note("new")
        for _ in range(1500):
            desk.lead(("play", "y", "r", 1))
        desk.note("old")
        desk.back("new")
        same(self, [desk.thing_of("y").beat, len(desk.all_deeds()[1])], [0, 1500])
        desk.back("old")
        same(self, [desk.thing_of("y").beat, len(desk.thing_of("y").homes)], [1500, 1499])

    def test_equal_desks_stand_alike(self):
        for seed in range(20):
            one, _ = random_desk(random.Random(seed), 25)
            other, plain = random_desk(random.Random(seed), 25)
            same(self, [told_of(one), told_of(other)], [plain.told()] * 2)


if __name__ == "__main__":
    unittest.main()
