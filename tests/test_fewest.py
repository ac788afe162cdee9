"""The fewest beats of a fine timetable, beside a search through all of them."""

import random
import unittest

from plainly import WORDS, all_ways
from roadqueues.errors import BadWays, TooGreat
from roadqueues.tables import fewest_beats, floor_of, judged_table, pushed_table, shows_fewest, table_of
from roadqueues.webs import Web
from support import ODD_VALUES, line_of, name_of, raised, raised_with, random_web, same
from test_tables import NO_WAYS, WAYS, WEB, random_fine_table, spoilt


def tables_within(ways, beats):
    """All fine timetables with at most so many beats, letter by letter, each crossing at all beats that are left."""
    def lines(way, taken, since):
        if not way:
            yield ()
            return
        for beat in range(since, beats - len(way) + 1):
            if (way[0], beat) not in taken:
                for rest in lines(way[1:], taken, beat + 1):
                    yield (beat, *rest)

    def tables(letter, taken):
        if letter == len(ways):
            yield ()
            return
        for line in lines(ways[letter], taken, 0):
            for rest in tables(letter + 1, taken | set(zip(ways[letter], line))):
                yield (line, *rest)

    yield from tables(0, frozenset())


def fewest_plainly(ways):
    """The least number of beats within which there is some fine timetable."""
    beats = 0
    while next(tables_within(ways, beats), None) is None:
        beats += 1
    return beats


def few_ways(chance, web, most, letters):
    """Some ways, at most so many letters with so many roads in all, many of them equal or along the same roads."""
    ways, left = [], most
    found = chance.sample(all_ways(web, 6), min(len(all_ways(web, 6)), chance.randint(1, 5)))
    while len(ways) < letters:
        fitting = [way for way in found if len(way) <= left]
        if not fitting:
            break
        ways.append(chance.choice(fitting))
        left -= len(ways[-1])
    return tuple(ways)


class Fewest(unittest.TestCase):
    def told(self, web, ways):
        """What fewest_beats tells, once it is seen to be a fine timetable with so many beats."""
        value = fewest_beats(web, ways)
        self.assertEqual((type(value), len(value)), (tuple, 2))
        same(self, judged_table(web, ways, value[1]), ("fine", value[0]))
        same(self, shows_fewest(web, ways, value), True)
        return value

    def test_small_ones(self):
        same(self, self.told(WEB, ()), (0, ()))
        same(self, self.told(WEB, (("e",),)), (1, ((0,),)))
        same(self, self.told(WEB, (("e", "f", "h"),)), (3, ((0, 1, 2),)))
        same(self, self.told(WEB, WAYS)[0], 3)
        same(self, self.told(WEB, (("e",),) * 6)[0], 6)

    def test_more_than_the_floor(self):
        # Four letters want g and four want i, two of them both, with roads behind these.
        web = Web("road i b a\nroad e a b\nroad j b a\nroad g c b")
        ways = (("g", "i", "e", "j"), ("i",), ("g", "i", "e", "j"), ("i",), ("g", "j"), ("g", "j"))
        same(self, [self.told(web, ways)[0], floor_of(web, ways), fewest_plainly(ways)], [6, 5, 6])
        web = Web("road e b c\nroad f c b\nroad g a c\nroad h c a\nroad i a b\nroad k c b")
        ways = (("k", "e", "h", "g", "f"), ("k", "e", "h", "g", "f"), ("i", "e", "f"))
        same(self, [self.told(web, ways)[0], floor_of(web, ways), fewest_plainly(ways)], [7, 6, 7])

    def test_beside_a_search_through_all(self):
        sizes = set()
        for seed in range(700):
            chance = random.Random(seed)
            web = random_web(chance, 6)
            most = chance.choice((6, 9, 14))
            ways = few_ways(chance, web, most, chance.randint(1, 6))
            sizes.add((len(ways), sum([len(way) for way in ways])))
            same(self, self.told(web, ways)[0], fewest_plainly(ways))
        self.assertTrue({(6, 14), (6, 6), (1, 1)} <= sizes)

    def test_no_rule_is_better(self):
        for seed in range(200):
            chance = random.Random(seed)
            web = random_web(chance, 6)
            ways = few_ways(chance, web, 14, 6)
            beats = self.told(web, ways)[0]
            self.assertLessEqual(floor_of(web, ways), beats)
            for rule in WORDS:
                self.assertLessEqual(beats, judged_table(web, ways, table_of(web, ways, rule))[1])

    def test_shows_just_the_fine_ones_with_so_many_beats(self):
        for seed in range(40):
            chance = random.Random(seed)
            web = random_web(chance, 4)
            ways = few_ways(chance, web, 8, 4)
            beats = self.told(web, ways)[0]
            shown = 0
            for table in tables_within(ways, min(beats + 1, 6)):
                is_right = max([line[-1] + 1 for line in table]) == beats
                shown += is_right
                same(self, shows_fewest(web, ways, (beats, table)), is_right)
                for other in (beats - 1, beats + 1):
                    same(self, shows_fewest(web, ways, (other, table)), False)
            self.assertEqual(shown > 0, beats <= 6)

    def test_shows_values_that_are_near(self):
        told = {True: 0, False: 0}
        for seed in range(1500):
            chance = random.Random(seed)
            web = random_web(chance, 5)
            ways = few_ways(chance, web, 9, 4)
            table = random_fine_table(chance, web, ways, chance.choice((0, 0, 1)))
            if chance.random() < 0.5:
                table = pushed_table(web, ways, table)
            if chance.random() < 0.3:
                table = spoilt(chance, table)
            beats = fewest_beats(web, ways)[0]
            value = (beats + chance.choice((0, 0, 0, 1, -1)), table)
            right = value[0] == beats and judged_table(web, ways, table) == ("fine", beats)
            same(self, shows_fewest(web, ways, value), right)
            told[right] += 1
        self.assertGreater(min(told.values()), 200)

    def test_shows_values_of_any_kind(self):
        web, ways = WEB, (("e",),)
        table = ((0,),)
        same(self, shows_fewest(web, ways, (1, table)), True)
        values = (*ODD_VALUES, "", WEB, (1,), (1, table, 1), [1, table], (True, table), ("1", table), (1.0, table), (None, table),
                  (1, [(0,)]), (1, ([0],)), (1, ((False,),)), (1, ()), (1, None), (1, ((-1,),)), (1, ((0, 1),)), (2, ((1,),)))
        for value in values:
            with self.subTest(value=value):
                same(self, shows_fewest(web, ways, value), False)
        same(self, shows_fewest(web, (), (0, ())), True)
        for value in ((0, []), (False, ()), (0, None), (1, ()), (), (0,), [0, ()]):
            same(self, shows_fewest(web, (), value), False)


class WrongArguments(unittest.TestCase):
    def test_ways_that_are_none(self):
        for value in NO_WAYS:
            with self.subTest(value=value):
                raised_with(self, BadWays, fewest_beats, value, WEB, value)
                raised_with(self, BadWays, shows_fewest, value, WEB, value, None)

    def test_too_many_roads_and_letters(self):
        web = Web(line_of(13))
        long = tuple([name_of(k) for k in range(12)])
        same(self, fewest_beats(web, (long[:2], long))[0], 12)
        same(self, fewest_beats(web, (long[:9], *[long[:1]] * 5))[0], 9)
        for ways, told in (
            ((long, long[:3]), 15), ((long, long), 24), ((long[:1],) * 7, 7), ((long[:2],) * 7, 7),
            ((long[:1],) * 14, 14), ((long[:1],) * 15, 15), ((long[:3],) * 5, 15), ((long,) * 200, 2400),
        ):
            raised(self, TooGreat, told, fewest_beats, web, ways)
            raised(self, TooGreat, told, shows_fewest, web, ways, None)


if __name__ == "__main__":
    unittest.main()
