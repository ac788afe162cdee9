"""Timetables: judged, made by rules, their rests, pushed, and floors, beside plain ones."""

import random
import unittest

from plainly import WORDS, all_ways, by_rule, random_order, random_ranks, random_rule, yard_played_out
from roadqueues.errors import BadRule, BadTable, BadWays, TooMany
from roadqueues.tables import floor_of, judged_table, pushed_table, rests_of, table_of
from roadqueues.webs import Web
from roadqueues.yards import crossings
from support import ODD_VALUES, line_of, name_of, raised, raised_with, random_web, same
from test_yards import NO_RULES

WEB = Web("road e u v\nroad f v w\nroad g v w\nroad h w u")
WAYS = (("e", "f"), ("e", "g"), ("f",))
FINE = ((0, 1), (1, 2), (0,))

# Values that are no tuple of ways of WEB.
NO_WAYS = (
    *[value for value in ODD_VALUES if value != ()], "", "e", WEB, ("e",), ("e", "f"), [("e",)], (["e"],), (("e", "x"),),
    (("f", "e"),), (("e", "e"),), (("e",), None), (("e",), ("e", 1)), (("e",), ("e", ["f"])), (("e",), ()),
    (("e",),) * 201, ((0, ("e",)),), {("e",): 1}, "abc",
)


def judged_plainly(web, ways, table):
    """What judged_table tells, by its definition."""
    if type(table) is not tuple or len(table) != len(ways):
        return ("odd", -1)
    for letter, (way, line) in enumerate(zip(ways, table)):
        if type(line) is not tuple or len(line) != len(way):
            return ("odd", letter)
        last = -1
        for beat in line:
            if type(beat) is not int or beat <= last:
                return ("odd", letter)
            last = beat
    beats = {beat for line in table for beat in line}
    for beat in sorted(beats):
        for road, _, _ in web.roads:
            there = [letter for letter, (way, line) in enumerate(zip(ways, table)) if (road, beat) in zip(way, line)]
            if len(there) > 1:
                return ("clash", road, beat, there[0], there[1])
    return ("fine", max(beats, default=-1) + 1)


def rests_plainly(web, ways, table):
    """What rests_of tells, beat by beat."""
    rests = []
    for beat in range(judged_plainly(web, ways, table)[1]):
        for road, _, _ in web.roads:
            stands, crosses = False, False
            for way, line in zip(ways, table):
                if road in way:
                    place = way.index(road)
                    since = 0 if place == 0 else line[place - 1] + 1
                    stands = stands or since <= beat <= line[place]
                    crosses = crosses or line[place] == beat
            if stands and not crosses:
                rests.append((beat, road))
    return tuple(rests)


def pushed_plainly(ways, table):
    """What pushed_table tells: all crossings gone through by their beats, those of one beat by letters."""
    pushed = {}
    for beat in range(max([line[-1] for line in table], default=-1) + 1):
        for letter, line in enumerate(table):
            if beat in line:
                place = line.index(beat)
                road = ways[letter][place]
                least = pushed[(letter, ways[letter][place - 1])] + 1 if place > 0 else 0
                taken = [at for (_, name), at in pushed.items() if name == road]
                while least in taken:
                    least += 1
                pushed[(letter, road)] = least
    return tuple([tuple([pushed[(letter, road)] for road in way]) for letter, way in enumerate(ways)])


def floor_plainly(web, ways):
    """What floor_of tells, over all roads and numbers up to above what any way has."""
    sums = [0]
    for road, _, _ in web.roads:
        for ahead in range(13):
            for behind in range(13):
                there = [way for way in ways if road in way and way.index(road) >= ahead
                         and len(way) - 1 - way.index(road) >= behind]
                if there:
                    sums.append(ahead + len(there) + behind)
    return max(sums)


def random_ways(chance, web, most, longest=4):
    """Some ways, equal ones let."""
    return tuple(chance.choices(all_ways(web, longest), k=chance.randint(0, most)))


def random_fine_table(chance, web, ways, spare):
    """Some fine timetable in which roads rest, letter by letter, each at free beats."""
    taken = set()
    table = [None] * len(ways)
    for letter in chance.sample(range(len(ways)), len(ways)):
        line = []
        for road in ways[letter]:
            beat = (line[-1] + 1 if line else 0) + chance.randint(0, spare)
            while (road, beat) in taken:
                beat += 1
            taken.add((road, beat))
            line.append(beat)
        table[letter] = tuple(line)
    return tuple(table)


def spoilt(chance, table):
    """A table that differs a little from this one; it may be fine all the same."""
    rows = [list(line) for line in table]
    kind = chance.randint(0, 9)
    letter = chance.randrange(len(rows))
    place = chance.randrange(len(rows[letter]))
    if kind < 5:
        rows[letter][place] = chance.choice((rows[letter][place] - 1, rows[letter][place] + 1, rows[letter][0], 0))
    elif kind == 5:
        rows[letter][place] = chance.choice((True, False, None, "1", (1,), [1], -1, 10 ** 39, 1.5))
    elif kind == 6:
        rows[letter].append(rows[letter][-1] + 1)
    elif kind == 7:
        rows[letter].pop()
    elif kind == 8:
        rows.append(list(rows[letter]))
    else:
        rows[letter].reverse()
    lines = [tuple(row) for row in rows]
    if chance.random() < 0.05:
        lines[letter] = rows[letter]
    return lines if chance.random() < 0.02 else tuple(lines)


class Judged(unittest.TestCase):
    def test_odd_tables(self):
        for table in (*ODD_VALUES, "", "abc", WEB, FINE[:2], FINE + ((3,),), list(FINE), ((0, 1),), (FINE,)):
            if not (type(table) is tuple and len(table) == 3):
                same(self, judged_table(WEB, WAYS, table), ("odd", -1))

    def test_odd_parts(self):
        parts = (*ODD_VALUES, "", "ab", WEB, [0, 1], (0,), (0, 1, 2), (1, 0), (1, 1), (-1, 0), (-2, -1), (True, 2),
                 (0, True), (False, 1), ("0", "1"), (0, None), (0, (1,)), ((0, 1),), (0, 1.0), (0.0, 1))
        for part in parts:
            for letter in (0, 1):
                table = [(10, 11), (12, 13), (10,)]
                table[letter] = part
                with self.subTest(part=part):
                    same(self, judged_table(WEB, WAYS, tuple(table)), ("odd", letter))
        same(self, judged_table(WEB, WAYS, ((0, 1), (1, 2), ())), ("odd", 2))
        same(self, judged_table(WEB, WAYS, ((0, 1), (1, 2), (True,))), ("odd", 2))
        same(self, judged_table(WEB, WAYS, ((0, 1), (1, 2), (-1,))), ("odd", 2))

    def test_the_least_odd_letter_is_told_ahead_of_clashes(self):
        same(self, judged_table(WEB, WAYS, ((0, 1), (0, 0), (True,))), ("odd", 1))
        same(self, judged_table(WEB, WAYS, ((0, 1), (0, 1), [0])), ("odd", 2))

    def test_the_first_clash_is_told(self):
        six = (("e", "f"), ("e", "f"), ("f", "h"), ("h", "e"), ("h",), ("e",))
        # Clashes at beat 2 at e and h, and at beat 3 at f: of three letters at e the two least are told.
        table = ((2, 3), (2, 3), (0, 2), (2, 4), (7,), (2,))
        same(self, judged_table(WEB, six, table), ("clash", "e", 2, 0, 1))
        same(self, judged_table(WEB, six, ((9, 10), *table[1:])), ("clash", "e", 2, 1, 5))
        same(self, judged_table(WEB, six, (table[0], (5, 6), *table[2:])), ("clash", "e", 2, 0, 5))
        same(self, judged_table(WEB, six, ((3, 4), (5, 6), *table[2:])), ("clash", "h", 2, 2, 3))
        # The sequence of the roads is that of the text, not that of their names.
        turned = Web("road h w u\nroad g v w\nroad f v w\nroad e u v")
        same(self, judged_table(turned, six, table), ("clash", "h", 2, 2, 3))
        # The least beat counts ahead of the road.
        same(self, judged_table(WEB, (("h",), ("h",), ("e",), ("e",)), ((3,), (3,), (4,), (4,))), ("clash", "h", 3, 0, 1))

    def test_fine_tables(self):
        same(self, judged_table(WEB, WAYS, FINE), ("fine", 3))
        same(self, judged_table(WEB, WAYS, ((5, 10 ** 39), (6, 7), (0,))), ("fine", 10 ** 39 + 1))
        same(self, judged_table(WEB, (("f",), ("g",), ("e", "f")), ((4,), (4,), (4, 5))), ("fine", 6))

    def test_no_ways(self):
        same(self, judged_table(WEB, (), ()), ("fine", 0))
        for table in ODD_VALUES:
            if table != ():
                same(self, judged_table(WEB, (), table), ("odd", -1))
        same(self, [table_of(WEB, (), "last"), table_of(WEB, (), ()), rests_of(WEB, (), ()), pushed_table(WEB, (), ())],
             [(), (), (), ()])
        same(self, floor_of(WEB, ()), 0)

    def test_beside_a_plain_one(self):
        kinds = {}
        for seed in range(3000):
            chance = random.Random(seed)
            web = random_web(chance)
            ways = random_ways(chance, web, 6)
            table = random_fine_table(chance, web, ways, chance.randint(0, 3))
            for _ in range(chance.randint(0, 3) if ways else 0):
                table = spoilt(chance, table)
                if type(table) is not tuple or not all([type(line) is tuple and line for line in table]):
                    break
                if not all([type(beat) is int for line in table for beat in line]):
                    break
            told = judged_table(web, ways, table)
            same(self, told, judged_plainly(web, ways, table))
            kinds[told[0]] = kinds.get(told[0], 0) + 1
        self.assertGreater(min(kinds["odd"], kinds["clash"], kinds["fine"]), 100)

    def test_clashes_beside_a_plain_one(self):
        for seed in range(600):
            chance = random.Random(seed)
            web = random_web(chance)
            ways = random_ways(chance, web, 12, 3)
            table = tuple([tuple(sorted(chance.sample(range(8), len(way)))) for way in ways])
            same(self, judged_table(web, ways, table), judged_plainly(web, ways, table))

    def test_as_many_letters_as_may_be(self):
        web = Web(line_of(60))
        ways = (tuple([name_of(k) for k in range(12)]),) * 200
        table = table_of(web, ways, "first")
        same(self, table, tuple([tuple(range(k, k + 12)) for k in range(200)]))
        same(self, judged_table(web, ways, table), ("fine", 211))
        same(self, [rests_of(web, ways, table), floor_of(web, ways)], [(), 211])
        late = tuple([tuple([beat + 789 for beat in line]) for line in table])
        same(self, len(rests_of(web, ways, late)), 789)
        same(self, pushed_table(web, ways, late), table)


class Made(unittest.TestCase):
    def test_tables_of_rules(self):
        four = (("e", "f"), ("e",), ("e", "g", "h"), ("h", "e"))
        same(self, table_of(WEB, four, "eldest"), ((0, 1), (1,), (2, 3, 4), (0, 3)))
        same(self, table_of(WEB, four, "nearest"), ((2, 3), (0,), (3, 4, 5), (0, 1)))
        same(self, table_of(WEB, four, (3, 2, 1, 0)), ((3, 4), (2,), (0, 1, 2), (0, 1)))

    def test_beside_plain_yards_and_crossings(self):
        for seed in range(400):
            chance = random.Random(seed)
            web = random_web(chance, 7)
            ways = random_ways(chance, web, 9)
            row = tuple([(0, way) for way in ways])
            rules = [random_rule(chance, len(ways)), random_order(chance), random_ranks(chance, len(ways))]
            for rule in [*rules, *WORDS] if seed % 4 == 0 else rules:
                table = table_of(web, ways, rule)
                same(self, table, yard_played_out(web, row, by_rule(rule)).crossings())
                many = sum([len(way) for way in ways])
                same(self, table, crossings(web, row, rule, many))
                told = judged_table(web, ways, table)
                self.assertEqual(told[0], "fine")
                self.assertLessEqual(floor_of(web, ways), told[1])
                self.assertLessEqual(told[1], many)
                same(self, [rests_of(web, ways, table), pushed_table(web, ways, table)], [(), table])


class Rests(unittest.TestCase):
    def test_in_their_order(self):
        table = ((2, 5), (3, 6), (4,))
        told = ((0, "e"), (0, "f"), (1, "e"), (1, "f"), (2, "f"), (3, "f"), (4, "g"), (5, "g"))
        same(self, rests_of(WEB, WAYS, table), told)
        turned = Web("road g v w\nroad f v w\nroad e u v")
        same(self, rests_of(turned, WAYS, table)[:4], ((0, "f"), (0, "e"), (1, "f"), (1, "e")))

    def test_a_road_at_which_nobody_stands_does_not_rest(self):
        same(self, rests_of(WEB, (("e", "f"),), ((0, 1),)), ())
        same(self, rests_of(WEB, (("e", "f"),), ((0, 3),)), ((1, "f"), (2, "f")))
        same(self, rests_of(WEB, (("f",), ("e", "f")), ((0,), (0, 1))), ())

    def test_a_thousand_beats(self):
        ways = (("e",), ("e", "f"))
        same(self, len(rests_of(WEB, ways, ((0,), (1, 999)))), 997)
        raised(self, TooMany, 1000, rests_of, WEB, ways, ((0,), (1, 1000)))
        raised(self, TooMany, 1000, rests_of, WEB, ways, ((0,), (1, 10 ** 39)))
        raised(self, TooMany, 1000, rests_of, WEB, ways, ((1000,), (0, 999)))

    def test_beside_plain_ones(self):
        for seed in range(600):
            chance = random.Random(seed)
            web = random_web(chance, 7)
            ways = random_ways(chance, web, 7)
            table = random_fine_table(chance, web, ways, chance.choice((0, 1, 3, 9)))
            same(self, rests_of(web, ways, table), rests_plainly(web, ways, table))


class Pushed(unittest.TestCase):
    def test_those_of_one_beat_go_by_letters(self):
        # Letters 0 and 1 cross e and f at beat 4; letter 1 crosses e later.
        ways = (("f", "h"), ("e", "f"), ("e",))
        same(self, pushed_table(WEB, ways, ((4, 9), (4, 5), (6,))), ((0, 1), (0, 1), (1,)))
        # Who crosses first goes first, although the other one has the least number.
        same(self, pushed_table(WEB, (("e",), ("e",)), ((7,), (5,))), ((1,), (0,)))

    def test_beats_that_were_left_free_are_taken(self):
        # Letter 2 is gone through behind letter 1, and gets a beat ahead of it at f.
        ways = (("f",), ("h", "e", "f"), ("f",))
        same(self, pushed_table(WEB, ways, ((0,), (0, 1, 5), (6,))), ((0,), (0, 1, 2), (1,)))

    def test_great_beats(self):
        great = 10 ** 39
        same(self, pushed_table(WEB, WAYS, ((great, great + 5), (3, great), (great + 7,))), ((1, 2), (0, 1), (0,)))

    def test_beside_plain_ones(self):
        rested = 0
        for seed in range(600):
            chance = random.Random(seed)
            web = random_web(chance, 7)
            ways = random_ways(chance, web, 7)
            table = random_fine_table(chance, web, ways, chance.choice((0, 1, 3, 9)))
            told = pushed_table(web, ways, table)
            same(self, told, pushed_plainly(ways, table))
            self.assertEqual(judged_table(web, ways, told)[0], "fine")
            for one, other in zip(told, table):
                self.assertTrue(all([now <= then for now, then in zip(one, other)]))
            same(self, [rests_of(web, ways, told), pushed_table(web, ways, told)], [(), told])
            rests = judged_table(web, ways, table)[1] <= 1000 and rests_of(web, ways, table)
            rested += rests != ()
            if rests == ():
                same(self, told, table)
        self.assertGreater(rested, 200)


class Floors(unittest.TestCase):
    def test_letters_that_share_roads(self):
        same(self, floor_of(WEB, WAYS), 3)
        same(self, floor_of(WEB, (("e",),)), 1)
        same(self, floor_of(WEB, (("e", "f", "h"),)), 3)
        # Three letters cross f behind one road, and two of them go further.
        same(self, floor_of(WEB, (("e", "f"), ("e", "f", "h"), ("e", "f", "h"), ("f",))), 4)
        same(self, floor_of(WEB, (("h", "e", "f"), ("h", "e", "g"), ("e",), ("e", "g"))), 4)
        same(self, floor_of(WEB, (("f",),) * 200), 200)

    def test_beside_plain_ones(self):
        for seed in range(400):
            chance = random.Random(seed)
            web = random_web(chance, 8)
            ways = random_ways(chance, web, chance.choice((3, 12)), 6)
            same(self, floor_of(web, ways), floor_plainly(web, ways))


class WrongArguments(unittest.TestCase):
    def test_ways_that_are_none(self):
        for value in NO_WAYS:
            with self.subTest(value=value):
                raised_with(self, BadWays, judged_table, value, WEB, value, FINE)
                raised_with(self, BadWays, table_of, value, WEB, value, None)
                raised_with(self, BadWays, rests_of, value, WEB, value, None)
                raised_with(self, BadWays, pushed_table, value, WEB, value, None)
                raised_with(self, BadWays, floor_of, value, WEB, value)
        self.assertEqual(judged_table(WEB, (("e",),) * 200, ()), ("odd", -1))

    def test_rules_that_are_none(self):
        for rule in NO_RULES:
            # Ranks are let, if there are as many as letters.
            if not (type(rule) is tuple and len(rule) == 3 and all([type(one) is int for one in rule])):
                with self.subTest(rule=rule):
                    raised_with(self, BadRule, table_of, rule, WEB, WAYS, rule)
        for rule in ((0, 1), (0, 1, 2, 3), (0, 1, True), (0, 1, None), [0, 1, 2], ()):
            raised_with(self, BadRule, table_of, rule, WEB, WAYS, rule)
        same(self, table_of(WEB, WAYS, (2, -1, 10 ** 39)), ((1, 2), (0, 1), (0,)))

    def test_tables_that_are_not_fine(self):
        tables = (
            *ODD_VALUES, "", WEB, FINE[:2], list(FINE), ((0, 1), (0, 1), (0,)), ((0, 1), (1, 2), (1,)),
            ((0, 0), (1, 2), (0,)), ((0, 1), (1, 2), (True,)), ((0, 1), (1, 2), (-1,)), ((0, 1), [1, 2], (0,)),
        )
        for table in tables:
            with self.subTest(table=table):
                raised_with(self, BadTable, rests_of, table, WEB, WAYS, table)
                raised_with(self, BadTable, pushed_table, table, WEB, WAYS, table)
        # That a table is not fine is told ahead of how many beats it has.
        odd = ((0, 5000), (1, 5000), (5000,))
        raised_with(self, BadTable, rests_of, odd, WEB, WAYS, odd)


if __name__ == "__main__":
    unittest.main()
