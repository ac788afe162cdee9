"""What holds over the whole program: arguments by name, nothing changed, equal calls, what was returned passed in again."""

import importlib
import itertools
import random
import unittest

from deskly import told_of
from roadqueues.desk import Desk
from roadqueues.errors import QueueError
from roadqueues.webs import Web
from roadqueues.yards import Yard
from support import ODD_VALUES, plain, same
from test_interface import CALLS

TEXT = "road e u v\nroad f v w\nroad g v w\nroad h w u"
TREE = "road a u w\nroad b v w\nroad c w x"
RING = "road a x y\nroad b y x"
E, F, EF = ("e",), ("f",), ("e", "f")
ROW = ((0, E), (0, EF), (1, E), (4, F))
THREE = ((0, ("a", "c")), (0, ("b", "c")), (1, ("c",)))
RATE, FAST = (1, 2, 2), (9, 10, 41)
ROWS = ((3, 1, ("a", "b"), 1, 4), (5, 2, ("b",), 0, 2))
LETTERS = (EF, ("e", "g"), F)
TABLE = ((0, 2), (1, 3), (4,))

# The arguments of a call of each function, by the name of the function; a text in the place of a web.
PASSED = {
    "Web": [TEXT], "is_way": [TEXT, EF], "road_ends": [TEXT, "h"], "roads_from": [TEXT, "v"], "roads_to": [TEXT, "w"],
    "ways_from": [TEXT, "w", 3], "web_shape": [TEXT],
    "keeps_rate": [TEXT, ROW, (1, 2, 1)], "least_burst": [TEXT, ROW, 1, 3], "room_left": [TEXT, ROW, RATE, 5, EF],
    "fullest": [TEXT, EF, RATE, 9], "joined": [TEXT, ROW, ROW[1:]], "shifted": [TEXT, ROW, 7], "puttings_text": [TEXT, ROW],
    "read_puttings": [TEXT, "0 e f\n3 g"],
    "Yard": [TEXT, "gone"], "played": [TEXT, ROW, "nearest", 3], "crossings": [TEXT, ROW, (3, 2, 1, 0), 4],
    "all_ages": [TEXT, ROW, (("left", "down"), ("number", "down"))],
    "elder_keeper": [ROWS], "younger_keeper": [ROWS], "keeper_bound": [RATE, 3], "slow_bound": [(1, 4, 2), 3],
    "ring_bound": [RING, RATE], "layer_bounds": [TREE, RATE], "blown_web": ["nearest"], "putter": ["first", FAST, 110],
    "is_timetable": [TREE, THREE, ((0, 3), (1, 2), (1,))], "least_beats": [TREE, THREE],
    "shows_least_beats": [TREE, THREE, (4, ("c", 1, 0, 3))], "most_crossed": [TREE, THREE, "c", 0, 3],
    "due_table": [TREE, THREE, (2, 2, 9)], "shows_due_table": [TREE, THREE, (4, 3, 2), ("kept", ((0, 3), (1, 2), (1,)))],
    "judged_table": [TEXT, LETTERS, TABLE], "table_of": [TEXT, LETTERS, "nearest"], "rests_of": [TEXT, LETTERS, TABLE],
    "pushed_table": [TEXT, LETTERS, TABLE], "floor_of": [TEXT, LETTERS], "fewest_beats": [TEXT, LETTERS],
    "shows_fewest": [TEXT, LETTERS, (3, ((1, 2), (0, 1), (0,)))],
    "worst": [TEXT, (E, EF), "last", (1, 2, 1), 4], "shows_worst": [TEXT, (E,), "last", (1, 2, 1), 4, ("within", 1, ((0, E),))],
    "fullest_yard": [TEXT, (E, EF), "youngest", (1, 2, 1), 3],
    "broken_at": [TEXT, ROW, "youngest", 1], "parted_at": [TEXT, ROW, "farthest", "nearest"], "later_heeded": [TEXT, ROW, "nearest"],
    "earlier_heeded": [TEXT, ROW, "farthest"], "blown_by": [(("came", "up"), ("left", "up")), FAST, 105],
    "Desk": [], "desk_text": ["desk"], "read_desk": ["stand 1\nnote n 0\nweb w 1\nroad a u v\ndrop w"],
}


def some_desk():
    """A desk with a thing of each kind, and an undone deed."""
    desk = Desk()
    for deed in (("web", "w", TEXT), ("row", "r", "w", "0 e f\n1 e"), ("yard", "y", "w", "last"), ("play", "y", "r", 2), ("drop", "r")):
        desk.lead(deed)
    desk.undo()
    desk.note("n")
    return desk


def function_of(name):
    """The function, or class, of the interface."""
    for module, calls in CALLS.items():
        if name in calls:
            return getattr(importlib.import_module("roadqueues." + module), name)
    raise AssertionError(name)


def arguments_of(name):
    """The names of the arguments, and those that are passed, webs and desks being made anew."""
    names = [calls[name] for calls in CALLS.values() if name in calls][0]
    passed = [Web(value) if argument == "web" else some_desk() if argument == "desk" else value
              for argument, value in zip(names, PASSED[name])]
    return names, passed


def seen(value):
    """All that can be seen of a value, kinds of parts included."""
    if isinstance(value, Web):
        return ("Web", value.text, value.roads, value.places)
    if isinstance(value, Yard):
        return ("Yard", value.web.text, plain(value.rule), value.beat, value.letters, value.standing, value.homes)
    if isinstance(value, Desk):
        return ("Desk", plain(told_of(value)))
    return plain(value)


def told(function, *passed, **named):
    """What can be seen of what a call returns, or of the error that it raises."""
    try:
        return seen(function(*passed, **named))
    except QueueError as error:
        return (type(error).__name__, seen(error.value))


class Calls(unittest.TestCase):
    def test_each_function_is_called(self):
        self.assertEqual(sorted(PASSED), sorted([name for calls in CALLS.values() for name in calls]))
        for name in PASSED:
            self.assertNotIn(told(function_of(name), *arguments_of(name)[1])[0][:3], ("Bad", "Too", "Not", "Has", "Unl"), name)

    def test_arguments_by_name_in_any_sequence(self):
        for name in PASSED:
            function = function_of(name)
            names, passed = arguments_of(name)
            right = told(function, *passed)
            orders = list(itertools.permutations(zip(names, passed)))
            for order in orders if len(orders) <= 24 else random.Random(name).sample(orders, 24):
                self.assertEqual(told(function, **dict(order)), right, name)
            for many in range(len(names)):
                self.assertEqual(told(function, *passed[:many], **dict(list(zip(names, passed))[many:])), right, name)

    def test_nothing_that_is_passed_in_is_changed(self):
        for name in PASSED:
            function = function_of(name)
            _, passed = arguments_of(name)
            before = [seen(value) for value in passed]
            parts = [id(value) for value in passed]
            told(function, *passed)
            self.assertEqual([[seen(value) for value in passed], [id(value) for value in passed]], [before, parts], name)
            # What is wrong is not changed either.
            for place in range(len(passed)):
                for odd in ([], {}, [E, EF], {"a": [1]}, ("a", ["b"], {"c": 1})):
                    if not isinstance(passed[place], (Web, Desk)):
                        before = repr(odd)
                        told(function, *passed[:place], odd, *passed[place + 1:])
                        self.assertEqual(repr(odd), before, name)

    def test_equal_calls_tell_the_same(self):
        first = {name: told(function_of(name), *arguments_of(name)[1]) for name in PASSED}
        kept = {name: arguments_of(name)[1] for name in PASSED}
        for seed in range(3):
            names = sorted(PASSED)
            random.Random(seed).shuffle(names)
            for name in names:
                # With the same objects as before, with equal ones, and with other calls in between.
                self.assertEqual(told(function_of(name), *kept[name]), first[name], name)
                self.assertEqual(told(function_of(name), *arguments_of(name)[1]), first[name], name)

    def test_values_of_any_kind_raise_but_the_errors_of_the_package(self):
        deep = ()
        for _ in range(59):
            deep = (deep,)
        returned = [function_of(name)(*arguments_of(name)[1]) for name in ("played", "worst", "due_table", "keeps_rate", "least_beats")]
        values = [*ODD_VALUES, "", "a", Web(RING), Yard(Web(RING), "last"), Desk(), some_desk(), deep, [deep], *returned, tuple(returned)]
        for name in PASSED:
            function = function_of(name)
            names, passed = arguments_of(name)
            for place, argument in enumerate(names):
                for value in values if argument not in ("web", "desk") else ():
                    with self.subTest(name=name, argument=argument, value=str(value)[:80]):
                        result = told(function, *passed[:place], value, *passed[place + 1:])
                        self.assertEqual(told(function, *passed[:place], value, *passed[place + 1:]), result)


class Returned(unittest.TestCase):
    def test_returned_sequences_are_tuples(self):
        def no_lists(value):
            self.assertNotIsInstance(value, (list, dict, set))
            for part in value if isinstance(value, tuple) else ():
                no_lists(part)

        for name in PASSED:
            no_lists(function_of(name)(*arguments_of(name)[1]))
        desk = some_desk()
        for value in (desk.names, desk.notes(), desk.all_deeds(), desk.does_keep("r", (1, 2, 1)), desk.thing_of("r")):
            no_lists(value)

    def test_what_was_returned_is_passed_in_again(self):
        web = Web(TEXT)
        call = {name: function_of(name) for name in PASSED}
        same(self, call["judged_table"](web, LETTERS, call["table_of"](web, LETTERS, "last"))[0], "fine")
        same(self, call["shows_fewest"](web, LETTERS, call["fewest_beats"](web, LETTERS)), True)
        value = call["worst"](web, (E, EF), "last", (1, 2, 1), 4)
        same(self, call["shows_worst"](web, (E, EF), "last", (1, 2, 1), 4, value), True)
        same(self, call["keeps_rate"](web, value[-1], (1, 2, 1)), ("kept",))
        same(self, call["shows_worst"](web, (E, EF), "last", (1, 2, 1), 4, (*value[:-1], call["joined"](web, value[-1], ()))), True)
        row = call["putter"]("gone", FAST, 100)
        blown = call["blown_web"]("gone")
        same(self, call["read_puttings"](blown, call["puttings_text"](blown, row)), row)
        same(self, call["later_heeded"](blown, row, "eldest"), None)
        desk = some_desk()
        other = Desk()
        for deed in sum(desk.all_deeds(), ()):
            other.lead(deed)
        same(self, other.all_deeds()[0], sum(desk.all_deeds(), ()))
        long = call["fullest"](web, EF, (99, 100, 50), 2000)
        text = call["puttings_text"](web, long)
        other.lead(("web", "z", TEXT))
        other.lead(("row", "q", "z", text))
        same(self, other.thing_of("q"), long)

    def test_methods_by_the_names_of_their_arguments(self):
        desk = Desk()
        desk.lead(deed=("web", "w", TEXT))
        desk.lead(deed=("row", "r", "w", "0 e"))
        desk.note(word="n")
        desk.lead(deed=("yard", "y", "w", "last"))
        same(self, [desk.thing_of(name="r"), desk.thing_kind(name="y"), desk.web_of(name="y").text], [((0, E),), "yard", TEXT])
        same(self, desk.does_keep(rate=(1, 2, 1), row="r"), ("kept",))
        desk.back(word="n")
        same(self, desk.names, ("r", "w"))


class Unchanged(unittest.TestCase):
    def test_only_yards_and_desks_change(self):
        web = Web(TEXT)
        before = seen(web)
        yard, desk = Yard(web, "last"), Desk()
        yard.put(EF)
        yard.go_on()
        desk.lead(("web", "w", TEXT))
        taken = desk.thing_of("w")
        desk.undo()
        self.assertEqual([seen(web), seen(taken)], [before, before])

    def test_equal_webs_are_told_alike(self):
        webs = [Web(TEXT), Web(TEXT), Web("\n".join(TEXT.split("\n")[::-1]))]
        self.assertTrue(webs[0] == webs[1] and not webs[0] != webs[1] and webs[0] != webs[2])
        for value in (*ODD_VALUES, TEXT, Desk(), Yard(webs[0], "last")):
            self.assertFalse(webs[0] == value)


if __name__ == "__main__":
    unittest.main()
