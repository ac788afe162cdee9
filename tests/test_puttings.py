"""Rows of puttings: what is one, joined, shifted, and their texts."""

import random
import unittest

from roadqueues.errors import BadNumber, BadPuttings, BadText, TooMany
from roadqueues.rates import joined, keeps_rate, least_burst, puttings_text, read_puttings, room_left, shifted
from roadqueues.webs import Web
from support import ODD_VALUES, line_of, name_of, raised, raised_with, random_row, same

WEB = Web("road e a b\nroad f b c\nroad g b c\nroad h c a")
E, F, EF = ("e",), ("f",), ("e", "f")

# All functions that take a row, with what else they need.
CALLS = (
    ("keeps_rate", lambda row: keeps_rate(WEB, row, (1, 2, 1))),
    ("keeps_rate, bad rate", lambda row: keeps_rate(WEB, row, None)),
    ("least_burst", lambda row: least_burst(WEB, row, 1, 2)),
    ("least_burst, bad rate", lambda row: least_burst(WEB, row, 2, 1)),
    ("room_left", lambda row: room_left(WEB, row, (1, 2, 1), 100000, E)),
    ("room_left, all bad", lambda row: room_left(WEB, row, None, None, None)),
    ("joined, one", lambda row: joined(WEB, row, ())),
    ("joined, one, other bad", lambda row: joined(WEB, row, (1, 2))),
    ("joined, other", lambda row: joined(WEB, (), row)),
    ("shifted", lambda row: shifted(WEB, row, 0)),
    ("shifted, bad beats", lambda row: shifted(WEB, row, -1)),
    ("puttings_text", lambda row: puttings_text(WEB, row)),
)

NO_PUTTINGS = (
    *ODD_VALUES, "0 e", "", WEB, (0,), (E,), (E, 0), (0, "e"), (0, ["e"]), [0, E], (0, E, 0), (0, E, E), (0, ()),
    (0, ("e", "e")), (0, ("e", "h")), (0, ("a",)), (0, ("x",)), (0, None), (None, E), (True, E), (False, E), ("0", E),
    (-1, E), (100001, E), (10 ** 39, E), ((0,), E), (0, (E,)), (0, ("e", ["f"])), (0, {"e": 1}), ((0, E),),
)


class Rows(unittest.TestCase):
    def bad(self, number, row):
        for name, call in CALLS:
            with self.subTest(name=name, row=row if len(repr(row)) < 200 else None):
                raised(self, BadPuttings, number, call, row)

    def test_what_is_no_tuple(self):
        for value in (None, True, 0, 7, "", "0 e", [], [(0, E)], {}, {0: E}, WEB):
            self.bad(None, value)

    def test_parts_that_are_none(self):
        for part in NO_PUTTINGS:
            self.bad(0, (part,))
            self.bad(2, ((0, E), (5, F), part, (6, F), None))

    def test_the_first_part_that_cannot_stand_counts(self):
        self.bad(1, ((3, E), (2, E), None))
        self.bad(1, ((3, E), None, (2, E)))
        self.bad(3, ((0, E), (0, F), (4, E), (3, E), (5, E)))

    def test_beats_may_be_equal_but_not_go_down(self):
        self.bad(1, ((1, E), (0, E)))
        self.bad(2, ((100000, E), (100000, E), (99999, E)))
        same(self, puttings_text(WEB, ((4, E), (4, E), (4, F))), "4 e\n4 e\n4 f")

    def test_the_first_and_the_last_beat(self):
        row = ((0, E), (100000, F))
        same(self, puttings_text(WEB, row), "0 e\n100000 f")
        same(self, read_puttings(WEB, "0 e\n100000 f"), row)

    def test_twenty_thousand_parts_and_one_more(self):
        row = ((1, E),) * 20000
        same(self, [least_burst(WEB, row, 1, 2), joined(WEB, row, ()) == row], [20000, True])
        self.bad(None, row + ((1, E),))
        self.bad(None, (None,) * 20001)
        self.bad(19999, row[1:] + ((0, E),))
        self.bad(None, tuple(range(200000)))

    def test_ways_of_the_web_alone(self):
        other = Web("road e a b\nroad x b c")
        raised(self, BadPuttings, 1, puttings_text, other, ((0, ("e", "x")), (0, EF)))
        same(self, puttings_text(other, ((0, ("e", "x")),)), "0 e x")

    def test_a_way_of_twelve_roads_and_of_thirteen(self):
        web = Web(line_of(13))
        way = tuple([name_of(k) for k in range(13)])
        same(self, puttings_text(web, ((0, way[:12]),)), "0 " + " ".join(way[:12]))
        raised(self, BadPuttings, 0, puttings_text, web, ((0, way),))
        raised(self, BadText, 1, read_puttings, web, "0 " + " ".join(way))


class Joined(unittest.TestCase):
    def test_the_letters_of_one_go_ahead(self):
        one = ((0, E), (2, EF), (2, E), (9, E))
        other = ((0, F), (1, F), (2, ("g",)), (2, F), (12, F))
        right = ((0, E), (0, F), (1, F), (2, EF), (2, E), (2, ("g",)), (2, F), (9, E), (12, F))
        same(self, joined(WEB, one, other), right)
        right = ((0, F), (0, E), (1, F), (2, ("g",)), (2, F), (2, EF), (2, E), (9, E), (12, F))
        same(self, joined(WEB, other, one), right)

    def test_ways_do_not_count(self):
        same(self, joined(WEB, ((3, F),), ((3, E),)), ((3, F), (3, E)))
        same(self, joined(WEB, ((3, E),), ((3, F),)), ((3, E), (3, F)))

    def test_empty_rows(self):
        row = ((3, F), (4, E))
        same(self, [joined(WEB, (), ()), joined(WEB, row, ()), joined(WEB, (), row)], [(), row, row])

    def test_beats_are_ordered_as_numbers(self):
        same(self, joined(WEB, ((10, E),), ((9, E), (100, E))), ((9, E), (10, E), (100, E)))

    def test_as_the_document_says_it(self):
        for seed in range(100):
            chance = random.Random(seed)
            one, other = [random_row(chance, WEB, chance.randint(0, 15), 8) for _ in range(2)]
            right = []
            for beat in range(9):
                right.extend([part for part in one if part[0] == beat])
                right.extend([part for part in other if part[0] == beat])
            same(self, joined(WEB, one, other), tuple(right))

    def test_twenty_thousand_letters_and_one_more(self):
        row = ((5, E),) * 10000
        same(self, len(joined(WEB, row, row)), 20000)
        raised(self, TooMany, 20000, joined, WEB, row, row + ((5, F),))
        raised(self, TooMany, 20000, joined, WEB, row + row, ((5, F),))
        raised(self, TooMany, 20000, joined, WEB, row + row, row + row)

    def test_which_comes_first(self):
        row = ((5, E),) * 20000
        raised(self, BadPuttings, 1, joined, WEB, ((0, E), None), (None,))
        raised(self, BadPuttings, 0, joined, WEB, row, (None,))
        raised(self, BadPuttings, None, joined, WEB, None, (None,))
        raised(self, BadPuttings, None, joined, WEB, row + ((5, E),), (None,))
        raised(self, BadPuttings, None, joined, WEB, (), row + ((5, E),))

    def test_arguments_by_name(self):
        same(self, joined(other=((0, E),), one=((0, F),), web=WEB), ((0, F), (0, E)))


class Shifted(unittest.TestCase):
    def test_all_beats_are_so_many_later(self):
        row = ((0, E), (3, EF), (3, F))
        same(self, shifted(WEB, row, 0), row)
        same(self, shifted(WEB, row, 40), ((40, E), (43, EF), (43, F)))

    def test_the_last_beat_that_is_let_and_one_beyond(self):
        row = ((0, E), (3, F))
        same(self, shifted(WEB, row, 99997), ((99997, E), (100000, F)))
        raised(self, BadNumber, 99998, shifted, WEB, row, 99998)
        same(self, shifted(WEB, ((100000, E),), 0), ((100000, E),))
        raised(self, BadNumber, 1, shifted, WEB, ((100000, E),), 1)

    def test_the_empty_row(self):
        same(self, [shifted(WEB, (), beats) for beats in (0, 1, 100000)], [(), (), ()])
        raised(self, BadNumber, 100001, shifted, WEB, (), 100001)
        raised(self, BadNumber, -1, shifted, WEB, (), -1)

    def test_bad_numbers(self):
        for beats in (-1, True, False, None, "1", "", (), [1], {}, 10 ** 39, -10 ** 39, WEB):
            with self.subTest(beats=beats):
                raised_with(self, BadNumber, shifted, beats, WEB, ((0, E),), beats)

    def test_arguments_by_name(self):
        same(self, shifted(beats=1, puttings=((0, E),), web=WEB), ((1, E),))


class Texts(unittest.TestCase):
    def bad(self, number, text):
        with self.subTest(text=text if len(text) < 200 else None):
            raised(self, BadText, number, read_puttings, WEB, text)

    def test_the_empty_row(self):
        same(self, [puttings_text(WEB, ()), read_puttings(WEB, "")], ["", ()])

    def test_a_text(self):
        row = ((0, EF), (0, E), (17, ("g", "h", "e", "f")), (99999, F))
        text = "0 e f\n0 e\n17 g h e f\n99999 f"
        same(self, [puttings_text(WEB, row), read_puttings(WEB, text)], [text, row])

    def test_there_and_back(self):
        for seed in range(100):
            chance = random.Random(seed)
            row = random_row(chance, WEB, chance.randint(0, 30), chance.choice((3, 1000, 100000)))
            text = puttings_text(WEB, row)
            same(self, read_puttings(WEB, text), row)
            self.assertEqual(len(text.split("\n")), max(len(row), 1))

    def test_a_great_row_there_and_back(self):
        web = Web("\n".join([f"road abcde{name_of(k)} {name_of(k)} {name_of(k + 1)}" for k in range(12)]))
        way = tuple([name for name, _, _ in web.roads])
        row = tuple([(80000 + k, way) for k in range(20000)])
        same(self, read_puttings(web, puttings_text(web, row)) == row, True)

    def test_what_is_no_string(self):
        for value in (*ODD_VALUES, ((0, E),), ["0 e"], WEB):
            with self.subTest(value=value):
                raised(self, BadText, 0, read_puttings, WEB, value)

    def test_lines_that_are_none(self):
        lines = (
            "", " ", "0", "0 ", "e", "e 0", "0  e", " 0 e", "0 e ", "0 e  f", "0 e\tf", "0 e,f", "0 a", "0 x", "0 E",
            "0 e e", "0 f e", "0 e h", "0 e f h e", "0 ef", "0 e 1", "-1 e", "0 0 e", "0 0", "x e", "- e", "0\te", "0. e",
        )
        for line in lines:
            self.bad(2, "0 e\n" + line)
            self.bad(3, "0 e\n0 f\n" + line + "\nno line")
            if line:
                self.bad(1, line)
                self.bad(1, line + "\n0 e")

    def test_numbers_that_are_none(self):
        words = (
            "007", "00", "01", "+1", "-0", "-1", "+0", "0000000007", "1000000000", "0000000000", "1_0", "1.0", "1e3", "0x1",
            "", " 1", "1 ", "1,", "one", "True", "None", "-", "+", "9" * 10, "9" * 4000, "9" * 100000, "100001", "999999999",
        )
        for word in words:
            self.bad(1, word + " e")
            self.bad(2, "0 e\n" + word + " e")

    def test_the_borders_of_numbers(self):
        for beat in (0, 1, 9, 10, 99, 100, 99999, 100000):
            same(self, read_puttings(WEB, f"{beat} e"), ((beat, E),))

    def test_line_feeds_at_the_ends(self):
        self.bad(2, "0 e\n")
        self.bad(1, "\n0 e")
        self.bad(1, "\n")
        self.bad(2, "0 e\n\n1 e")

    def test_beats_that_go_down(self):
        self.bad(2, "1 e\n0 e")
        self.bad(3, "0 e\n10 e\n9 e")
        self.bad(4, "5 e\n5 e\n5 f\n4 e\n0")
        same(self, read_puttings(WEB, "9 e\n9 f\n10 e"), ((9, E), (9, F), (10, E)))

    def test_the_first_line_that_cannot_stand_counts(self):
        self.bad(2, "1 e\n0 e\n\n0 x")
        self.bad(2, "1 e\nno\n0 e")

    def test_the_20001st_line(self):
        text = "\n".join(["7 e"] * 20000)
        same(self, len(read_puttings(WEB, text)), 20000)
        for line in ("7 e", "", "no", "0 e"):
            self.bad(20001, text + "\n" + line)
        self.bad(20001, text + "\n7 e\nno")
        self.bad(20000, "\n".join(["7 e"] * 19999) + "\nno\n7 e")

    def test_long_texts(self):
        self.bad(1, "\n" * 200000)
        self.bad(1, "0" * 200000)
        self.bad(1, "0" + " e" * 99999)
        self.bad(1, " " * 200000)

    def test_arguments_by_name(self):
        same(self, puttings_text(puttings=((0, E),), web=WEB), "0 e")
        same(self, read_puttings(text="0 e", web=WEB), ((0, E),))


class Unchanged(unittest.TestCase):
    def test_what_is_passed_in_stays(self):
        parts = [0, ["e"]]
        for call in [call for _, call in CALLS]:
            raised(self, BadPuttings, 0, call, (parts,))
            raised(self, BadPuttings, None, call, parts)
        same(self, parts, [0, ["e"]])


if __name__ == "__main__":
    unittest.main()
