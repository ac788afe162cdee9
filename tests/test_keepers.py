"""The two keepers: what they promise, in plain yards whose roads carry what they tell."""

import random
import unittest

from plainly import all_ways, by_keeper, random_layers, random_tree, ring_of, rush, yard_played_out
from roadqueues.errors import BadRows
from roadqueues.keepers import elder_keeper, keeper_bound, younger_keeper
from roadqueues.rates import keeps_rate
from roadqueues.webs import Web
from support import ODD_VALUES, line_of, name_of, plain, raised, raised_with, random_row, random_web, same

KEEPERS = (elder_keeper, younger_keeper)
KNOT = Web("road z b a\nroad a a b\nroad c a b\nroad d b c\nroad b c a")
ROW = (3, 1, ("a", "b"), 1, 4)
ROWS = (ROW, (5, 2, ("b",), 0, 2), (6, 4, ("b", "c"), 0, 4))
TWELVE = tuple("abcdefghijkl")
RATES = ((1, 2, 1), (1, 2, 3), (2, 3, 2), (3, 4, 1), (9, 10, 1), (9, 10, 4), (99, 100, 2), (1, 100, 1), (1, 3, 9))


def some_web(chance):
    """Some web of any shape."""
    kind = chance.randint(0, 4)
    if kind == 0:
        return ring_of(chance.randint(2, 5))
    if kind == 1:
        return random_layers(chance)
    if kind == 2:
        return random_tree(chance)
    return KNOT if kind == 3 else random_web(chance)


def crossings_kept(web, row, keeper):
    """The beats at which letters cross, if each road carries what the keeper tells."""
    return yard_played_out(web, row, by_keeper(keeper)).crossings()


def turned(chance, row):
    """The row with letters of each beat told in another order."""
    mixed = [(beat, chance.random(), way) for beat, way in row]
    return tuple([(beat, way) for beat, _, way in sorted(mixed)])


class WhatTheyTell(unittest.TestCase):
    def test_one_letter_alone(self):
        for keeper in KEEPERS:
            same(self, keeper((ROW,)), 0)
            same(self, keeper(((0, 0, ("a",), 0, 0),)), 0)

    def test_the_index_is_told_not_the_number(self):
        same(self, elder_keeper(ROWS), 0)
        same(self, younger_keeper(ROWS), 2)
        rows = ((4, 9, ("b",), 0, 9), (70, 2, ("b",), 0, 2), (800, 5, ("b",), 0, 5))
        same(self, elder_keeper(rows), 1)
        same(self, younger_keeper(rows), 0)

    def test_many_rows(self):
        rows = tuple([(k, k, ("a", "b"), 1, 20000) for k in range(20000)])
        same(self, [elder_keeper(rows), younger_keeper(rows)], [0, 19999])

    def test_rows_may_be_passed_by_name(self):
        same(self, [keeper(rows=ROWS) for keeper in KEEPERS], [0, 2])

    def test_great_numbers_and_all_borders(self):
        row = (10 ** 39, 10 ** 39, TWELVE, 11, 10 ** 39)
        for keeper in KEEPERS:
            same(self, keeper((row,)), 0)
            same(self, keeper(((0, 0, ("l",), 0, 0), row)), 0 if keeper is elder_keeper else 1)

    def test_equal_rows_have_equal_answers(self):
        chance = random.Random(3)
        for _ in range(50):
            beats = [chance.randint(0, 5) for _ in range(6)]
            rows = tuple([(k, beat, ("a",), 0, beat) for k, beat in enumerate(beats)])
            for keeper in KEEPERS:
                same(self, keeper(rows), keeper(tuple([tuple(list(row)) for row in rows])))


class NothingElseCounts(unittest.TestCase):
    def rows_alike(self, chance, web, up_to):
        """Two rows that are the same up to a beat, or from it on, and how many letters that are."""
        row = random_row(chance, web, chance.randint(1, 12), 8)
        other = random_row(chance, web, chance.randint(0, 12), 8)
        beat = chance.randint(0, 8)
        if up_to:
            mine = [one for one in row if one[0] <= beat]
            return (*mine, *[one for one in row if one[0] > beat]), (*mine, *[one for one in other if one[0] > beat]), len(mine)
        mine = [one for one in row if one[0] >= beat]
        return (*[one for one in row if one[0] < beat], *mine), (*[one for one in other if one[0] < beat], *mine), len(mine)

    def test_nothing_later_counts_for_the_elder(self):
        unlike = 0
        for seed in range(250):
            chance = random.Random(seed)
            web = some_web(chance)
            one, other, many = self.rows_alike(chance, web, True)
            self.assertEqual(one[:many], other[:many])
            with self.subTest(web=web.text, one=one, other=other):
                same(self, crossings_kept(web, one, elder_keeper)[:many], crossings_kept(web, other, elder_keeper)[:many])
            unlike += crossings_kept(web, one, younger_keeper)[:many] != crossings_kept(web, other, younger_keeper)[:many]
        # The rows are such that it is not so by each keeper.
        self.assertGreater(unlike, 20)

    def test_nothing_earlier_counts_for_the_younger(self):
        unlike = 0
        for seed in range(250):
            chance = random.Random(seed)
            web = some_web(chance)
            one, other, many = self.rows_alike(chance, web, False)
            mine, its = len(one) - many, len(other) - many
            self.assertEqual(one[mine:], other[its:])
            with self.subTest(web=web.text, one=one, other=other):
                same(self, crossings_kept(web, one, younger_keeper)[mine:], crossings_kept(web, other, younger_keeper)[its:])
            unlike += crossings_kept(web, one, elder_keeper)[mine:] != crossings_kept(web, other, elder_keeper)[its:]
        self.assertGreater(unlike, 20)

    def test_letters_of_one_beat_told_in_each_order(self):
        # Those told later, of the same beat, count: but nothing that is put in behind it.
        ways = (("a",), ("a", "d"), ("z", "a"))
        for seed in range(60):
            chance = random.Random(seed)
            now = [(3, chance.choice(ways)) for _ in range(4)]
            for _ in range(3):
                chance.shuffle(now)
                later = tuple([(beat, chance.choice(ways)) for beat in (4, 4, 5, 6)])
                earlier = tuple([(beat, chance.choice(ways)) for beat in (0, 1, 1, 2)])
                alone = tuple(now)
                same(self, crossings_kept(KNOT, alone + later, elder_keeper)[:4], crossings_kept(KNOT, alone, elder_keeper))
                same(self, crossings_kept(KNOT, earlier + alone, younger_keeper)[4:], crossings_kept(KNOT, alone, younger_keeper))


class HomeInTime(unittest.TestCase):
    def in_time(self, web, row, rate, most):
        same(self, keeps_rate(web, row, rate), ("kept",))
        bound = keeper_bound(rate, most)
        greatest = 0
        for keeper in KEEPERS:
            ages = [one.age() for one in yard_played_out(web, row, by_keeper(keeper)).all]
            self.assertLessEqual(max(ages, default=0), bound)
            greatest = max([greatest, *ages])
        return greatest, bound

    def test_rushes_on_drawn_webs(self):
        for seed in range(70):
            chance = random.Random(seed)
            web = some_web(chance)
            rate = chance.choice(RATES)
            most = chance.randint(1, 5)
            row = rush(chance, web, rate, chance.choice((10, 30)), most)
            longest = max([len(way) for _, way in row], default=1)
            for one in (row, turned(chance, row)):
                with self.subTest(web=web.text, row=one, rate=rate):
                    self.in_time(web, one, rate, longest)

    def test_ways_of_one_road_reach_the_bound(self):
        # With ways of one road the bound is what the youngest rule makes of a steady stream.
        for rate in ((1, 2, 2), (1, 2, 3), (2, 3, 2)):
            row = rush(random.Random(1), Web("road a p q"), rate, 0, 1)
            p, q, burst = rate
            row = ((0, ("a",)),) * burst
            beat = 1
            while beat < 40:
                extra = row + ((beat, ("a",)),)
                if keeps_rate(Web("road a p q"), extra, rate) == ("kept",):
                    row = extra
                else:
                    beat += 1
            greatest, bound = self.in_time(Web("road a p q"), row, rate, 1)
            self.assertEqual(greatest, bound)

    def test_a_line_of_roads_with_letters_that_come_in_at_each(self):
        web = Web(line_of(5))
        names = [name_of(k) for k in range(5)]
        for seed in range(6):
            chance = random.Random(seed)
            rate = ((1, 2, 2), (2, 3, 1), (4, 5, 2))[seed % 3]
            row = rush(chance, web, rate, 40, 5)
            self.assertIn(tuple(names), all_ways(web, 5))
            self.in_time(web, row, rate, 5)
            self.in_time(web, turned(chance, row), rate, 5)


class BadRowsAreTold(unittest.TestCase):
    def bad(self, value):
        for keeper in KEEPERS:
            with self.subTest(value=repr(value)[:200]):
                raised_with(self, BadRows, keeper, value, value)

    def test_what_is_no_tuple_of_rows(self):
        for value in (*ODD_VALUES, "", "ab", Web("road a p q"), [ROW], {0: ROW}, ROW, ([*ROW],), (ROW, None), (None, ROW)):
            self.bad(value)

    def test_too_many_rows(self):
        rows = tuple([(k, 0, ("a",), 0, 0) for k in range(20001)])
        self.bad(rows)
        same(self, elder_keeper(rows[:20000]), 0)

    def test_one_part_of_one_row_otherwise(self):
        parts = {
            0: (-1, True, False, "3", None, (3,), 5, 6, 7),
            1: (-1, True, False, "1", None, [1], 5, 10 ** 39),
            2: (
                (), ("a",), ("a", "a"), ("b", "b"), ("a", "c"), ("b", "a"), ["a", "b"], "ab", None, ("a", 1), ("a", ""),
                ("A", "b"), ("abcdefghi", "b"), ("a", "b", "a"), ("a", "b", ["c"]), ("a", "b", None), ("a", ("b",)),
                TWELVE + ("m",), {"a": 1}, ("a", "b", "c1"), Web("road a p q"),
            ),
            3: (-1, 0, 2, 3, True, "1", None, (1,), 10 ** 39),
            4: (-1, 0, True, False, "4", None, (4,)),
        }
        for place, values in parts.items():
            for value in values:
                row = (*ROW[:place], value, *ROW[place + 1:])
                self.bad((row, *ROWS[1:]))

    def test_rows_too_long_or_too_short(self):
        for row in ((), ROW[:4], ROW + (1,), ROW + ROW, list(ROW)):
            self.bad((row, *ROWS[1:]))
            self.bad((*ROWS, row))

    def test_true_where_an_integer_is_asked_for(self):
        self.bad(((True, 0, ("a",), 0, 0),))
        self.bad(((1, False, ("a",), 0, 0),))
        self.bad(((1, 0, ("a", "b"), True, 0),))
        self.bad(((1, 0, ("a",), False, 0),))
        self.bad(((1, 0, ("a",), 0, True),))

    def test_numbers_that_do_not_ascend(self):
        self.bad((ROWS[1], ROWS[0], ROWS[2]))
        self.bad((ROWS[0], ROWS[2], ROWS[1]))
        self.bad((ROWS[0], ROWS[0]))
        self.bad((ROWS[0], (3, *ROWS[1][1:]), ROWS[2]))

    def test_letters_at_other_roads(self):
        self.bad((*ROWS, (7, 1, ("c", "b"), 0, 4)))
        self.bad(((1, 0, ("a", "b"), 0, 0), (2, 0, ("a", "b"), 1, 1)))
        for keeper in KEEPERS:
            self.assertIn(keeper((*ROWS, (7, 1, ("c", "b"), 1, 4))), range(4))

    def test_longest_ways_and_names(self):
        row = (1, 0, TWELVE, 11, 5)
        for keeper in KEEPERS:
            same(self, keeper((row,)), 0)
            same(self, keeper(((1, 0, ("abcdefgh",), 0, 0),)), 0)
        self.bad(((1, 0, TWELVE, 12, 5),))
        self.bad(((1, 0, TWELVE + ("m",), 12, 5),))

    def test_each_kind_is_told_alike(self):
        value = ((1, 0, ("a",), 0, 0), (1, 0, ("a",), 0, 0))
        error = raised(self, BadRows, value, elder_keeper, value)
        self.assertEqual(plain(error.value), plain(value))


if __name__ == "__main__":
    unittest.main()
