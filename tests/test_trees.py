"""Trees: timetables, least beats, and how many can have crossed a road."""

import random
import unittest

from plainly import random_tree
from roadqueues.errors import BadNumber, BadPuttings, BadRoad, NotTowards
from roadqueues.trees import (
    due_table, is_timetable, least_beats, most_crossed, shows_due_table, shows_least_beats)
from roadqueues.webs import Web, web_shape
from roadqueues.yards import crossings
from support import ODD_VALUES, line_of, name_of, raised, raised_with, random_row, random_web, same
from timetables import all_timetables, crossed_plainly, is_bar, least_plainly, passing, small_row

WEB = Web("road a u w\nroad b v w\nroad c w x")
AC, BC, A, C = ("a", "c"), ("b", "c"), ("a",), ("c",)
ROW = ((0, AC), (0, BC), (0, A), (1, C))
TABLE = ((0, 1), (0, 2), (1,), (3,))
OTHER_WEBS = {
    "ring": Web("road a p q\nroad b q p"),
    "layers": Web("road a p q\nroad b p q"),
    "other": Web("road a p q\nroad b q p\nroad c q r"),
}
# All functions, with right arguments behind the web and the row.
CALLS = (
    lambda web, row: is_timetable(web, row, ()),
    lambda web, row: least_beats(web, row),
    lambda web, row: shows_least_beats(web, row, ()),
    lambda web, row: most_crossed(web, row, None, None, None),
    lambda web, row: due_table(web, row, None),
    lambda web, row: shows_due_table(web, row, None, None),
)


def cases(many, most=4):
    """Some webs of the shape "towards", each with a small row and all its timetables."""
    for seed in range(many):
        chance = random.Random(seed)
        web = random_tree(chance, 5)
        row, horizon = small_row(chance, web, most)
        yield chance, web, row, all_timetables(row, horizon)


def great_cases(many):
    """Some webs of the shape "towards", each with a greater row."""
    for seed in range(many):
        chance = random.Random(seed)
        web = random_tree(chance, 9)
        yield chance, web, random_row(chance, web, chance.randint(1, 25), chance.choice((0, 4, 12)))


class Shapes(unittest.TestCase):
    def test_webs_that_are_not_towards(self):
        for shape, web in OTHER_WEBS.items():
            self.assertEqual(web_shape(web), shape)
            for call in CALLS:
                raised(self, NotTowards, shape, call, web, ())
                raised(self, NotTowards, shape, call, web, None)

    def test_puttings_come_next(self):
        for call in CALLS:
            raised(self, BadPuttings, None, call, WEB, None)
            raised(self, BadPuttings, None, call, WEB, list(ROW))
            raised(self, BadPuttings, 1, call, WEB, ((0, A), (0, ("a", "b"))))
            raised(self, BadPuttings, 2, call, WEB, ((0, A), (1, A), (0, A)))
            raised(self, BadPuttings, 0, call, WEB, ((True, A),))

    def test_several_trees_may_stand_side_by_side(self):
        web = Web("road a p q\nroad b r s\nroad c s t")
        row = ((0, ("a",)), (0, ("b", "c")))
        same(self, [is_timetable(web, row, ((0,), (0, 1))), least_beats(web, row)[0]], [True, 2])


class Timetables(unittest.TestCase):
    def tells(self, right, value, row=ROW):
        same(self, is_timetable(WEB, row, value), right)

    def test_one_that_is_right(self):
        self.tells(True, TABLE)
        self.tells(True, ((0, 1), (0, 10 ** 39), (1,), (3,)))
        self.tells(True, ((2, 9), (0, 8), (0,), (7,)))

    def test_no_letter_crosses_ahead_of_its_putting(self):
        self.tells(False, ((-1, 1), (0, 2), (1,), (3,)))
        self.tells(False, ((0, 2), (0, 3), (1,), (0,)))
        self.tells(True, ((0, 2), (0, 3), (1,), (1,)))

    def test_beats_of_a_letter_ascend(self):
        self.tells(False, ((0, 0), (0, 2), (1,), (3,)))
        self.tells(False, ((2, 1), (0, 2), (1,), (3,)))

    def test_no_two_cross_at_once(self):
        self.tells(False, ((0, 1), (0, 1), (1,), (3,)))
        self.tells(False, ((0, 1), (0, 2), (0,), (3,)))
        self.tells(False, ((0, 1), (0, 3), (1,), (3,)))
        # Other roads at the same beat, and the same road at other beats.
        self.tells(True, ((0, 1), (1, 2), (1,), (3,)))

    def test_as_many_parts_as_letters_and_roads(self):
        for value in ((), TABLE[:3], TABLE + ((4,),), ((0, 1), (0, 2), (1,), ()), ((0,), (0, 2), (1,), (3,)),
                      ((0, 1, 5), (0, 2), (1,), (3,)), ((0, 1), (0, 2), (1, 2), (3,)), (0, 1, 2, 3), ((0, 1), (0, 2), 1, 3)):
            self.tells(False, value)

    def test_the_empty_row(self):
        self.tells(True, (), ())
        for value in ([], None, "", ((),), 0, False, {}):
            self.tells(False, value, ())

    def test_values_of_any_kind(self):
        for value in (*ODD_VALUES, "", "abcd", WEB, list(TABLE), [*TABLE], ([0, 1], [0, 2], [1], [3]), (TABLE,),
                      ((0, 1), (0, 2), (True,), (3,)), ((False, 1), (0, 2), (1,), (3,)), ((0, True), (0, 2), (1,), (3,)),
                      ((0, 1), (0, 2), (1,), [3]), ((0, 1), (0, 2), (1,), ("3",)), ((0, 1), (0, 2), (1,), (None,)),
                      ((0, 1), (0, (2,)), (1,), (3,)), ((0, 1), {0: 0, 2: 2}, (1,), (3,)), ((0, 1), "02", (1,), (3,)),
                      ((0, 1), (0, 2), (1,), (WEB,)), ((0, 1), (0, [2]), (1,), (3,))):
            self.tells(False, value)

    def test_all_timetables_of_small_rows_and_values_near_to_them(self):
        for chance, web, row, tables in cases(60):
            for table in chance.sample(tables, min(len(tables), 10)):
                same(self, is_timetable(web, row, table), True)
                if row:
                    number = chance.randrange(len(row))
                    place = chance.randrange(len(row[number][1]))
                    line = list(table[number])
                    line[place] += chance.choice((-1, 1))
                    near = (*table[:number], tuple(line), *table[number + 1:])
                    # The search goes over all beats below a horizon: what lies above it is looked at apart.
                    if line[place] < max([beat for one in tables[-1:] for part in one for beat in part]):
                        same(self, is_timetable(web, row, near), near in tables)

    def test_crossings_are_a_timetable(self):
        for chance, web, row in great_cases(40):
            for rule in ("eldest", "last", "nearest", (("number", "down"),)):
                same(self, is_timetable(web, row, crossings(web, row, rule, 1000)), True)
            same(self, is_timetable(web, row, crossings(web, row, "eldest", row[-1][0])), False)

    def test_by_name(self):
        same(self, is_timetable(web=WEB, puttings=ROW, value=TABLE), True)
        same(self, least_beats(web=WEB, puttings=())[0], 0)
        same(self, shows_least_beats(web=WEB, puttings=(), value=(0, ())), True)
        same(self, most_crossed(web=WEB, puttings=ROW, road="c", further=0, beat=3), 2)


class LeastBeats(unittest.TestCase):
    def test_without_letters(self):
        same(self, least_beats(WEB, ()), (0, ()))
        for value in (*ODD_VALUES, (0,), (0, (), ()), (0, []), (0, None), (False, ()), (1, ()), [0, ()], (0, ((),)), ((), 0),
                      (0, ("a", 0, 0, 0)), (0, ("a", 0, 0, 1)), (0, 0), "", WEB):
            same(self, shows_least_beats(WEB, (), value), False)
        same(self, shows_least_beats(WEB, (), (0, ())), True)

    def test_one_letter(self):
        for beat in (0, 1, 100000):
            beats, bar = least_beats(WEB, ((beat, AC),))
            same(self, beats, beat + 2)
            self.assertTrue(is_bar(((beat, AC),), beats, *bar))
            for bar in (("a", beat, 1, 1), ("c", beat + 1, 0, 1)):
                same(self, shows_least_beats(WEB, ((beat, AC),), (beat + 2, bar)), True)

    def test_beside_all_timetables(self):
        for _, web, row, tables in cases(150):
            beats, bar = least_beats(web, row)
            same(self, beats, least_plainly(tables))
            same(self, shows_least_beats(web, row, (beats, bar)), True)
            if row:
                self.assertTrue(is_bar(row, beats, *bar))

    def test_beside_yards_and_bars(self):
        for _, web, row in great_cases(150):
            beats, bar = least_beats(web, row)
            table = crossings(web, row, "farthest", 1000)
            same(self, beats, max([line[-1] + 1 for line in table]))
            self.assertEqual([type(part) for part in (beats, *bar)], [int, str, int, int, int])
            self.assertTrue(is_bar(row, beats, *bar))
            for rule in ("nearest", "eldest"):
                other = crossings(web, row, rule, 1000)
                self.assertLessEqual(beats, max([line[-1] + 1 for line in other]))

    def test_all_bars_are_shown_and_nothing_else(self):
        for _, web, row, _ in cases(40):
            beats = least_beats(web, row)[0]
            for road, _, _ in web.roads:
                for early in range(-2, 7):
                    for further in range(-2, 4):
                        for many in range(len(row) + 2):
                            right = bool(row) and is_bar(row, beats, road, early, further, many)
                            bar = (road, early, further, many)
                            same(self, shows_least_beats(web, row, (beats, bar)), right)
                            if right:
                                for other in (beats - 1, beats + 1, True, None, str(beats), (beats,)):
                                    same(self, shows_least_beats(web, row, (other, bar)), False)

    def test_bars_of_several_kinds_are_right(self):
        row = ((0, ("a", "c")), (0, ("a", "c")))
        for bar in (("a", 0, 1, 2), ("c", 1, 0, 2)):
            same(self, shows_least_beats(WEB, row, (3, bar)), True)
        for bar in (("a", 0, 0, 2), ("a", 0, 0, 3), ("a", 0, 1, 1), ("a", 1, 1, 1), ("a", -1, 2, 2), ("b", 3, 0, 0),
                    ("c", 3, 0, 0), ("c", 0, 0, 2), ("c", 0, 0, 3), ("c", 2, 0, 1), ("c", 1, 0, 1), ("c", 1, 1, 1),
                    ("c", 0, 1, 2), ("x", 1, 0, 2)):
            same(self, shows_least_beats(WEB, row, (3, bar)), False)

    def test_values_of_any_kind(self):
        # ("c", 1, 0, 1) is right: so what follows differs in kinds alone.
        row = ((1, C),)
        same(self, shows_least_beats(WEB, row, (2, ("c", 1, 0, 1))), True)
        for value in (*ODD_VALUES, "", WEB, [2, ("c", 1, 0, 1)], (2, ["c", 1, 0, 1]), (2, ("c", True, 0, 1)),
                      (2, ("c", 1, False, 1)), (2, ("c", 1, 0, True)), (2, ("c", 1, 0)), (2, ("c", 1, 0, 1, 0)),
                      (2,), (2, ("c", 1, 0, 1), 0), ("c", 1, 0, 1), (2, (("c",), 1, 0, 1)), (2, (["c"], 1, 0, 1)),
                      (2, (None, 1, 0, 1)), (2, (WEB, 1, 0, 1)), (2, ("c", "1", 0, 1)), (2, ("c", 1, None, 1)),
                      (2, ("c", 1, 0, (1,))), (2, ()), (2, None), (2, "c101"), ("2", ("c", 1, 0, 1)), (0, ()),
                      (2, (3, 1, 0, 1)), (2, ({}, 1, 0, 1)), (2, ("c", [1], 0, 1))):
            same(self, shows_least_beats(WEB, row, value), False)
        one = ((0, C),)
        same(self, shows_least_beats(WEB, one, (1, ("c", 0, 0, 1))), True)
        same(self, shows_least_beats(WEB, one, (True, ("c", 0, 0, 1))), False)
        same(self, shows_least_beats(WEB, one, (1, ("c", 0, 0, True))), False)
        same(self, shows_least_beats(WEB, one, (1, ("c", False, 0, 1))), False)


class MostCrossed(unittest.TestCase):
    def test_some_by_hand(self):
        same(self, [most_crossed(WEB, ROW, "c", 0, beat) for beat in range(6)], [0, 0, 1, 2, 3, 3])
        same(self, [most_crossed(WEB, ROW, "a", 0, beat) for beat in range(4)], [0, 1, 2, 2])
        same(self, [most_crossed(WEB, ROW, "a", 1, beat) for beat in range(4)], [0, 1, 1, 1])
        same(self, [most_crossed(WEB, ROW, "c", 1, 9), most_crossed(WEB, ROW, "c", 11, 9)], [0, 0])
        same(self, most_crossed(WEB, (), "c", 0, 100000), 0)

    def test_beside_all_timetables(self):
        for _, web, row, tables in cases(70):
            for road, _, _ in web.roads:
                for further in range(4):
                    for beat in range(8):
                        # Beats at and above the horizon do not count: all letters are home there.
                        right = crossed_plainly(row, tables, road, further, beat)
                        same(self, most_crossed(web, row, road, further, beat), right)

    def test_beside_yards(self):
        for chance, web, row in great_cases(60):
            table = crossings(web, row, "farthest", 1000)
            for road, _, _ in web.roads:
                further, beat = chance.randint(0, 4), chance.randint(0, 20)
                far = [table[number][row[number][1].index(road)] for number, _, more in passing(row, road) if more >= further]
                same(self, most_crossed(web, row, road, further, beat), len([one for one in far if one < beat]))

    def test_late_beats(self):
        row = ((99999, C), (99999, C), (100000, C))
        same(self, [most_crossed(WEB, row, "c", 0, beat) for beat in (99998, 99999, 100000)], [0, 0, 1])

    def test_long_ways(self):
        web = Web(line_of(12))
        way = tuple([name_of(k) for k in range(12)])
        row = ((0, way), (0, way[:1]), (0, way[:3]))
        same(self, [most_crossed(web, row, "aaa", further, 9) for further in range(12)], [3, 2, 2] + [1] * 9)
        same(self, [most_crossed(web, row, "aaa", further, 1) for further in range(12)], [1] * 12)

    def test_wrong_arguments_in_their_order(self):
        others = ("", "x", "C", "u", ("c",), ["c"], WEB, "c ")
        for value in (*ODD_VALUES, *others):
            raised_with(self, BadRoad, most_crossed, value, WEB, ROW, value, None, None)
        no_integers = ("", "0", WEB, (0,), -1, 10 ** 39, -10 ** 39, *[one for one in ODD_VALUES if type(one) is not int])
        for value in (*no_integers, 12):
            raised_with(self, BadNumber, most_crossed, value, WEB, ROW, "c", value, None)
        for value in (*no_integers, 100001):
            raised_with(self, BadNumber, most_crossed, value, WEB, ROW, "c", 11, value)


class EqualCalls(unittest.TestCase):
    def test_equal_calls_return_equal_results(self):
        for _, web, row in great_cases(10):
            other = Web(web.text)
            same(self, least_beats(web, row), least_beats(other, tuple(list(row))))
            same(self, most_crossed(web, row, web.roads[0][0], 0, 5), most_crossed(other, row, web.roads[0][0], 0, 5))

    def test_random_webs_of_other_shapes(self):
        found = set()
        for seed in range(60):
            web = random_web(random.Random(seed))
            shape = web_shape(web)
            found.add(shape)
            if shape != "towards":
                raised(self, NotTowards, shape, least_beats, web, ())
        self.assertEqual(found, {"ring", "towards", "layers", "other"})


if __name__ == "__main__":
    unittest.main()
