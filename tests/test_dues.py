"""Trees: timetables that have each letter home within its due, and what bars them."""

import random
import unittest

from plainly import random_tree
from roadqueues.errors import BadDues, BadNumber, BadPuttings, NotTowards, UnlikeEnds
from roadqueues.trees import due_table, is_timetable, least_beats, shows_due_table
from roadqueues.webs import Web, road_ends
from roadqueues.yards import all_ages, crossings
from support import ODD_VALUES, plain, raised, raised_with, random_row, same
from timetables import all_timetables, is_due_bar, kept_plainly, small_row

WEB = Web("road a u w\nroad b v w\nroad c w x")
AC, BC, A, C = ("a", "c"), ("b", "c"), ("a",), ("c",)
ROW = ((0, AC), (0, BC), (1, C))
TABLE = ((0, 3), (1, 2), (1,))


def to_one_place(web, row):
    """The letters of the row that end where most of them do."""
    ends = [road_ends(web, way[-1])[1] for _, way in row]
    place = max(sorted(set(ends)), key=ends.count) if row else None
    return tuple([putting for putting, end in zip(row, ends) if end == place])


def cases(many):
    """Some webs, each with a small row to one place, all its timetables, and dues."""
    for seed in range(many):
        chance = random.Random(seed)
        web = random_tree(chance, 5)
        row, horizon = small_row(chance, web, 5)
        row = to_one_place(web, row)
        dues = tuple([chance.randint(0, 8) if seed % 2 else beat + len(way) + chance.choice((0, 1, 2))
                      for beat, way in row])
        yield chance, web, row, all_timetables(row, horizon), dues


def great_cases(many):
    """Some webs, each with a greater row to one place, and dues."""
    for seed in range(many):
        chance = random.Random(seed)
        web = random_tree(chance, 9)
        row = to_one_place(web, random_row(chance, web, chance.randint(1, 30), chance.choice((0, 4, 12))))
        late = chance.choice((2, 6, 15))
        yield chance, web, row, tuple([beat + len(way) + chance.randint(0, late) for beat, way in row])


class DueTable(unittest.TestCase):
    def test_without_letters(self):
        same(self, due_table(WEB, (), ()), ("kept", ()))
        same(self, shows_due_table(WEB, (), (), ("kept", ())), True)
        for value in (*ODD_VALUES, ("kept", []), ("kept",), ("kept", None), ("kept", (), ()), ["kept", ()], "kept", ("barred",),
                      ("barred", "a", 0, 0, 0), ("barred", "a", 0, -1, 0), ("Kept", ()), ("kept", ((),))):
            same(self, shows_due_table(WEB, (), (), value), False)

    def test_dues_of_nothing(self):
        for beat, way in ((0, C), (0, AC), (9, C), (100000, AC)):
            told = due_table(WEB, ((beat, way),), (0,))
            self.assertEqual(told[0], "barred")
            self.assertTrue(is_due_bar(((beat, way),), (0,), *told[1:]))
        same(self, shows_due_table(WEB, ((0, C),), (0,), ("barred", "c", 0, 0, 1)), True)
        same(self, shows_due_table(WEB, ((0, C),), (0,), ("kept", ((0,),))), False)

    def test_the_border_of_one_letter(self):
        for beat in (0, 5):
            for way in (C, AC):
                early = beat + len(way)
                same(self, due_table(WEB, ((beat, way),), (early,)), ("kept", (tuple(range(beat, early)),)))
                self.assertEqual(due_table(WEB, ((beat, way),), (early - 1,))[0], "barred")

    def test_the_greatest_dues(self):
        same(self, due_table(WEB, ((99998, AC),), (100000,)), ("kept", ((99998, 99999),)))
        self.assertEqual(due_table(WEB, ((99999, AC),), (100000,))[0], "barred")

    def right(self, web, row, dues, told):
        """Fails unless what is told is right, by its definition."""
        if told[0] == "kept":
            self.assertEqual(len(told), 2)
            self.assertIs(is_timetable(web, row, told[1]), True)
            self.assertTrue(all([line[-1] < due for line, due in zip(told[1], dues)]))
        else:
            self.assertEqual([type(part) for part in told], [str, str, int, int, int])
            self.assertEqual(told[0], "barred")
            self.assertTrue(is_due_bar(row, dues, *told[1:]))
        same(self, shows_due_table(web, row, dues, told), True)

    def test_beside_all_timetables(self):
        found = {"kept": 0, "barred": 0}
        for _, web, row, tables, dues in cases(220):
            told = due_table(web, row, dues)
            self.assertEqual(told[0] == "kept", kept_plainly(tables, dues))
            self.right(web, row, dues, told)
            found[told[0]] += 1
        self.assertGreater(min(found.values()), 40)

    def test_greater_rows_beside_yards_with_dues_as_ranks(self):
        found = {"kept": 0, "barred": 0}
        for _, web, row, dues in great_cases(250):
            told = due_table(web, row, dues)
            self.right(web, row, dues, told)
            ages = all_ages(web, row, dues)
            in_time = all([beat + age <= due for (beat, _), age, due in zip(row, ages, dues)])
            self.assertEqual(told[0] == "kept", in_time)
            found[told[0]] += 1
        self.assertGreater(min(found.values()), 40)

    def test_all_due_at_the_least_beats(self):
        for _, web, row, _ in great_cases(60):
            beats = least_beats(web, row)[0]
            self.assertEqual(due_table(web, row, (beats,) * len(row))[0], "kept")
            self.assertEqual(due_table(web, row, (beats - 1,) * len(row))[0], "barred")

    def test_equal_calls_and_names(self):
        for _, web, row, dues in great_cases(10):
            same(self, due_table(web, row, dues), due_table(Web(web.text), tuple(list(row)), dues))
        same(self, due_table(web=WEB, puttings=(), dues=()), ("kept", ()))
        same(self, shows_due_table(web=WEB, puttings=ROW, dues=(4, 3, 2), value=("kept", TABLE)), True)


class ShowsDueTable(unittest.TestCase):
    def tells(self, right, dues, value):
        same(self, shows_due_table(WEB, ROW, dues, value), right)

    def test_any_timetable_within_the_dues(self):
        for table in (((0, 3), (1, 2), (1,)), ((0, 3), (0, 2), (1,)), ((2, 3), (1, 2), (1,))):
            self.tells(True, (4, 3, 2), ("kept", table))
        for table in (((0, 2), (1, 3), (1,)), ((0, 3), (0, 1), (2,)), ((0, 3), (1, 3), (1,)), ((0, 4), (1, 2), (1,)),
                      ((0, 3), (1, 2)), ((0, 3), (2, 2), (1,)), ((-1, 3), (1, 2), (1,)), (), ((0, 3), (1, 2), (0,))):
            self.tells(False, (4, 3, 2), ("kept", table))

    def test_all_bars_are_shown_and_nothing_else(self):
        for _, web, row, tables, dues in cases(60):
            barred = not kept_plainly(tables, dues)
            found = False
            for road, _, _ in web.roads:
                for early in range(-1, 6):
                    for late in range(-2, 8):
                        for many in range(len(row) + 2):
                            right = is_due_bar(row, dues, road, early, late, many)
                            value = ("barred", road, early, late, many)
                            same(self, shows_due_table(web, row, dues, value), right)
                            found = found or right
            self.assertTrue(barred or not found)

    def test_other_bars_that_are_right(self):
        # All three want c at the beats 1 and 2.
        dues = (3, 3, 3)
        self.tells(True, dues, ("barred", "c", 1, 3, 3))
        for bar in (("c", 1, 3, 2), ("c", 1, 2, 1), ("c", 0, 3, 3), ("c", 1, 4, 3), ("c", 2, 3, 1), ("a", 0, 2, 1), ("c", 2, 1, 0),
                    ("c", 9, 3, 0), ("b", 1, 0, 0), ("x", 1, 3, 3)):
            self.tells(False, dues, ("barred", *bar))
        # Letter 0 cannot be home within one beat: that is seen at both of its roads.
        for bar in (("c", 1, 1, 1), ("c", 0, 1, 1), ("a", 0, 0, 1), ("a", -1, 0, 1), ("a", 0, -1, 0), ("c", 0, 0, 0)):
            self.tells(bar in (("c", 1, 1, 1), ("a", 0, 0, 1)), (1, 9, 9), ("barred", *bar))

    def test_values_of_any_kind(self):
        dues = (1, 9, 9)
        for value in (*ODD_VALUES, "", "barred", WEB, ["barred", "c", 1, 1, 1], ("barred", "c", True, 1, 1),
                      ("barred", "c", 1, True, 1), ("barred", "c", 1, 1, True), ("barred", "c", 1, 1), ("barred", "c", 1, 1, 1, 1),
                      ("barred", ("c", 1, 1, 1)), ("barred", ["c"], 1, 1, 1), ("barred", None, 1, 1, 1), ("barred", WEB, 1, 1, 1),
                      ("barred", "c", "1", 1, 1), ("barred", "c", 1, None, 1), ("barred", "c", 1, 1, (1,)), ("c", 1, 1, 1),
                      ("Barred", "c", 1, 1, 1), ("kept", "c", 1, 1, 1), (["barred"], "c", 1, 1, 1), (None, "c", 1, 1, 1),
                      ("kept",), ("kept", ()), ("kept", None), (("kept",), TABLE), ("barred", TABLE), ("barred",)):
            self.tells(False, dues, value)
        for table in (list(TABLE), ([0, 3], [1, 2], [1]), ((0, 3), (True, 2), (1,)), ((False, 3), (1, 2), (1,)),
                      ((0, 3), (1, 2), (True,)), ((0, 3), (1, 2), [1]), ((0, 3), (1, 2), ("1",)), (TABLE,), None, "abc"):
            self.tells(False, (4, 3, 2), ("kept", table))
        self.tells(False, (4, 3, 2), ["kept", TABLE])
        self.tells(False, (4, 3, 2), ("kept", TABLE, ()))


class WrongArguments(unittest.TestCase):
    CALLS = (
        lambda web, row, dues: due_table(web, row, dues),
        lambda web, row, dues: shows_due_table(web, row, dues, None),
    )

    def test_dues_that_are_none(self):
        others = (
            "", "abc", WEB, [4, 3, 2], (4, 3), (4, 3, 2, 1), (4, 3, -1), (4, 3, 100001), (4, 3, 10 ** 39), (True, 3, 2),
            (4, False, 2), (4, 3, "2"), (4, 3, None), (4, 3, (2,)), (4, [3], 2), {0: 4, 1: 3, 2: 2},
        )
        for call in self.CALLS:
            for value in (*ODD_VALUES, *others):
                raised_with(self, BadDues, call, value, WEB, ROW, value)
            for value in (None, [], (0,), 0, "", {}):
                raised_with(self, BadDues, call, value, WEB, (), value)
            self.assertIn(call(WEB, ROW, (0, 100000, 5)), (False, due_table(WEB, ROW, (0, 100000, 5))))

    def test_ways_that_end_at_several_places(self):
        web = Web("road k z y\nroad a u w\nroad b v w\nroad c w x")
        for call in self.CALLS:
            raised(self, UnlikeEnds, ("w", "x"), call, WEB, ((0, AC), (0, A)), (9, 9))
            raised(self, UnlikeEnds, ("w", "x", "y"), call, web, ((0, ("k",)), (0, AC), (0, A), (3, ("b",))), (0, 0, 0, 0))
            self.assertIn(call(WEB, ((0, A), (0, ("b",))), (1, 1)), (False, ("kept", ((0,), (0,)))))

    def test_which_one_comes_first(self):
        ring = Web("road a p q\nroad b q p")
        for call in self.CALLS:
            raised(self, NotTowards, "ring", call, ring, None, None)
            raised(self, BadPuttings, None, call, WEB, None, None)
            raised(self, BadPuttings, 0, call, WEB, (None,), (1, 2))
            raised(self, BadDues, (1,), call, WEB, ((0, AC), (0, A)), (1,))
            raised(self, BadDues, (1, True), call, WEB, ((0, AC), (0, A)), (1, True))

    def test_errors_do_not_hang_on_the_value(self):
        with self.assertRaises(UnlikeEnds):
            shows_due_table(WEB, ((0, AC), (0, A)), (9, 9), ("kept", ((0, 1), (1,))))
        self.assertNotEqual(plain(BadDues(1).value), plain(BadNumber(True).value))

    def test_crossings_by_dues_are_told(self):
        for _, web, row, dues in great_cases(30):
            told = due_table(web, row, dues)
            if told[0] == "kept":
                same(self, shows_due_table(web, row, dues, ("kept", crossings(web, row, dues, 1000))), True)


if __name__ == "__main__":
    unittest.main()
