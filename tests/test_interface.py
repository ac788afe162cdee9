"""The interface: names, arguments, and the errors."""

import importlib
import inspect
import unittest

from roadqueues import errors
from roadqueues.desk import Desk, read_desk
from roadqueues.errors import QueueError
from roadqueues.webs import Web
from roadqueues.yards import Yard
from support import ODD_VALUES

ERRORS = (
    "BadWeb BadRoad BadPlace BadNumber TooMany BadPuttings BadRate BadWay TooFast BadText BadRule"
    " BadRows NotRing HasRing TooSlow NotTowards BadDues UnlikeEnds BadWays BadTable TooGreat NoThing"
    " WrongKind BadName Held OtherWeb BadDeed NothingToUndo NothingToRedo NoNote BadDesk"
).split(" ")

CALLS = {
    "webs": {
        "Web": ["text"],
        "is_way": ["web", "value"],
        "road_ends": ["web", "road"],
        "roads_from": ["web", "place"],
        "roads_to": ["web", "place"],
        "ways_from": ["web", "place", "most"],
        "web_shape": ["web"],
    },
    "rates": {
        "keeps_rate": ["web", "puttings", "rate"],
        "least_burst": ["web", "puttings", "p", "q"],
        "room_left": ["web", "puttings", "rate", "beat", "way"],
        "fullest": ["web", "way", "rate", "beats"],
        "joined": ["web", "one", "other"],
        "shifted": ["web", "puttings", "beats"],
        "puttings_text": ["web", "puttings"],
        "read_puttings": ["web", "text"],
    },
    "yards": {
        "Yard": ["web", "rule"],
        "played": ["web", "puttings", "rule", "beats"],
        "crossings": ["web", "puttings", "rule", "beats"],
        "all_ages": ["web", "puttings", "rule"],
    },
    "keepers": {
        "elder_keeper": ["rows"],
        "younger_keeper": ["rows"],
        "keeper_bound": ["rate", "most"],
        "slow_bound": ["rate", "most"],
        "ring_bound": ["web", "rate"],
        "layer_bounds": ["web", "rate"],
    },
    "putters": {
        "blown_web": ["rule"],
        "putter": ["rule", "rate", "goal"],
    },
    "trees": {
        "is_timetable": ["web", "puttings", "value"],
        "least_beats": ["web", "puttings"],
        "shows_least_beats": ["web", "puttings", "value"],
        "most_crossed": ["web", "puttings", "road", "further", "beat"],
        "due_table": ["web", "puttings", "dues"],
        "shows_due_table": ["web", "puttings", "dues", "value"],
    },
    "tables": {
        "judged_table": ["web", "ways", "table"],
        "table_of": ["web", "ways", "rule"],
        "rests_of": ["web", "ways", "table"],
        "pushed_table": ["web", "ways", "table"],
        "floor_of": ["web", "ways"],
        "fewest_beats": ["web", "ways"],
        "shows_fewest": ["web", "ways", "value"],
    },
    "worst": {
        "worst": ["web", "ways", "rule", "rate", "limit"],
        "shows_worst": ["web", "ways", "rule", "rate", "limit", "value"],
        "fullest_yard": ["web", "ways", "rule", "rate", "limit"],
    },
    "judged": {
        "broken_at": ["web", "puttings", "rule", "bound"],
        "parted_at": ["web", "puttings", "one", "other"],
        "later_heeded": ["web", "puttings", "rule"],
        "earlier_heeded": ["web", "puttings", "rule"],
        "blown_by": ["rule", "rate", "goal"],
    },
    "desk": {
        "Desk": [],
        "desk_text": ["desk"],
        "read_desk": ["text"],
    },
}

DESK_METHODS = {
    "__init__": ["self"], "lead": ["self", "deed"], "thing_of": ["self", "name"], "thing_kind": ["self", "name"],
    "web_of": ["self", "name"], "does_keep": ["self", "row", "rate"], "undo": ["self"], "redo": ["self"],
    "note": ["self", "word"], "notes": ["self"], "back": ["self", "word"], "all_deeds": ["self"], "__len__": ["self"],
}


class Names(unittest.TestCase):
    def test_functions_and_classes_take_the_named_arguments_and_are_defined_in_their_files(self):
        for module_name, calls in CALLS.items():
            module = importlib.import_module("roadqueues." + module_name)
            for name, arguments in calls.items():
                with self.subTest(name=name):
                    found = getattr(module, name)
                    parameters = list(inspect.signature(found).parameters.values())
                    self.assertEqual([one.name for one in parameters], arguments)
                    for one in parameters:
                        self.assertEqual(one.kind, one.POSITIONAL_OR_KEYWORD)
                        self.assertIs(one.default, one.empty)
                    self.assertEqual(found.__module__, module.__name__)

    def test_web_defines_its_own_methods(self):
        for name in ("__init__", "__len__", "__contains__", "__eq__"):
            self.assertIn(name, Web.__dict__)

    def test_listed_attributes_are_set_when_a_web_is_created(self):
        self.assertLessEqual({"text", "roads", "places"}, set(vars(Web("road a p q"))))

    def test_yard_defines_its_own_methods(self):
        for name, arguments in {"__init__": ["self", "web", "rule"], "put": ["self", "way"], "go_on": ["self"],
                                "copy": ["self"]}.items():
            self.assertIn(name, Yard.__dict__)
            self.assertEqual(list(inspect.signature(Yard.__dict__[name]).parameters), arguments)

    def test_listed_attributes_are_there_when_a_yard_is_created(self):
        yard = Yard(Web("road a p q"), "eldest")
        for one in (yard, yard.copy()):
            for name in ("web", "rule", "beat", "letters", "standing", "homes"):
                self.assertTrue(hasattr(one, name))

    def test_desk_defines_its_own_methods(self):
        for name, arguments in DESK_METHODS.items():
            self.assertIn(name, Desk.__dict__)
            self.assertEqual(list(inspect.signature(Desk.__dict__[name]).parameters), arguments)
        self.assertIn("__contains__", Desk.__dict__)

    def test_listed_attributes_are_there_when_a_desk_is_created(self):
        for one in (Desk(), read_desk("stand 0")):
            self.assertTrue(hasattr(one, "names"))


class Errors(unittest.TestCase):
    def test_all_errors_derive_directly_from_queue_error(self):
        self.assertEqual(QueueError.__bases__, (ValueError,))
        self.assertEqual(QueueError.__module__, "roadqueues.errors")
        for name in ERRORS:
            with self.subTest(name=name):
                error = getattr(errors, name)
                self.assertEqual(error.__bases__, (QueueError,))
                self.assertEqual((error.__name__, error.__module__), (name, "roadqueues.errors"))

    def test_there_are_no_errors_that_the_interface_does_not_list(self):
        classes = [name for name, value in vars(errors).items() if inspect.isclass(value)]
        self.assertEqual(sorted(classes), sorted([*ERRORS, "QueueError"]))

    def test_each_keeps_any_value(self):
        web = Web("road a p q")
        deep = ()
        for _ in range(60):
            deep = (deep,)
        for name in [*ERRORS, "QueueError"]:
            error = getattr(errors, name)
            for value in (*ODD_VALUES, "", "a", web, deep, error):
                with self.subTest(name=name, value=value):
                    self.assertIs(error(value).value, value)
                    with self.assertRaises(QueueError) as caught:
                        raise error(value)
                    self.assertIs(caught.exception.value, value)

    def test_each_takes_just_one_argument(self):
        for name in [*ERRORS, "QueueError"]:
            error = getattr(errors, name)
            self.assertRaises(TypeError, error)
            self.assertRaises(TypeError, error, 1, 2)

    def test_each_may_be_told(self):
        self.assertIn("17", str(errors.BadWeb(17)))


if __name__ == "__main__":
    unittest.main()
