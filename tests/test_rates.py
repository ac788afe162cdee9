"""What rates rows of puttings keep: keeps_rate, least_burst, room_left, fullest."""

import random
import unittest

from roadqueues.errors import BadNumber, BadPuttings, BadRate, BadWay, TooFast
from roadqueues.rates import fullest, joined, keeps_rate, least_burst, room_left, shifted
from roadqueues.webs import Web, ways_from
from support import ODD_VALUES, line_of, name_of, raised, raised_with, random_row, random_web, same

WEB = Web("road e a b\nroad f b c\nroad g b c\nroad h c a")
E, F, EF = ("e",), ("f",), ("e", "f")

BAD_RATES = (
    *ODD_VALUES, "1 2 1", "", WEB, (1, 2), (1, 2, 1, 1), [1, 2, 1], ("1", 2, 1), (1, "2", 1), (1, 2, "1"),
    (0, 2, 1), (-1, 2, 1), (2, 2, 1), (3, 2, 1), (1, 101, 1), (100, 101, 1), (1, 2, 0), (1, 2, -1), (1, 2, 51),
    (True, 2, 1), (1, True, 1), (1, 2, True), (False, 2, 1), (None, 2, 1), (1, None, 1), (1, 2, None),
    ((1,), 2, 1), (1, [2], 1), (1, 2, (1,)), ((1, 2), 1), (10 ** 39, 10 ** 39 + 1, 1), (1, 10 ** 39, 1), (0, 0, 1),
)


def many_in(row, road, begin, end):
    """How many letters that are put in from begin to end have the road on their way."""
    return len([way for beat, way in row if begin <= beat <= end and road in way])


def told_plainly(web, row, rate):
    """What keeps_rate tells, by trying all stretches, as the document says it."""
    p, q, burst = rate
    last = row[-1][0] if row else -1
    for end in range(last + 1):
        for begin in range(end + 1):
            for road, _, _ in web.roads:
                many = many_in(row, road, begin, end)
                if many > ((end - begin + 1) * p) // q + burst:
                    return ("broken", road, begin, end, many)
    return ("kept",)


def burst_plainly(web, row, p, q):
    """The least burst, by trying one after the other."""
    burst = 0
    while told_plainly(web, row, (p, q, burst)) != ("kept",):
        burst += 1
    return burst


def random_rate(chance):
    """Some rate, a slow or a fast one."""
    q = chance.choice((2, 3, 4, 5, 7, 10, 100))
    return (chance.randint(1, q - 1), q, chance.randint(1, 4))


def random_cases(many):
    """Some webs, each with a row and a rate."""
    for seed in range(many):
        chance = random.Random(seed)
        web = random_web(chance)
        row = random_row(chance, web, chance.randint(0, 9), chance.randint(0, 14))
        yield web, row, random_rate(chance)


def letters(way, *beats):
    """A row of letters with this way, at these beats."""
    return tuple([(beat, way) for beat in beats])


class KeepsRate(unittest.TestCase):
    def kept(self, row, rate):
        same(self, keeps_rate(WEB, row, rate), ("kept",))

    def broken(self, row, rate, *told):
        same(self, keeps_rate(WEB, row, rate), ("broken", *told))

    def test_the_empty_row(self):
        self.kept((), (1, 100, 1))

    def test_the_border_in_one_beat(self):
        for burst in (1, 2, 5, 50):
            # A beat lets the burst and nothing more, however fast the rate is.
            for p, q in ((1, 2), (99, 100), (1, 100)):
                self.kept(letters(E, *[0] * burst), (p, q, burst))
                self.broken(letters(E, *[0] * (burst + 1)), (p, q, burst), "e", 0, 0, burst + 1)

    def test_the_border_in_several_beats(self):
        self.kept(letters(E, 0, 1, 3), (1, 2, 1))
        self.broken(letters(E, 0, 1, 2), (1, 2, 1), "e", 0, 2, 3)
        self.broken(letters(E, 0, 1, 3, 3), (1, 2, 1), "e", 0, 3, 4)
        self.kept(letters(E, 0, 0, 2), (1, 3, 2))
        self.broken(letters(E, 0, 0, 1), (1, 3, 2), "e", 0, 1, 3)
        self.broken(letters(E, 0, 0, 2, 3), (1, 3, 2), "e", 0, 3, 4)
        self.kept(letters(E, 0, 0, 2, 5), (1, 3, 2))

    def test_a_letter_at_each_beat(self):
        self.kept(letters(E, *range(99)), (99, 100, 1))
        self.kept(letters(E, *range(100)), (99, 100, 1))
        # At t = 101 beats 101 * 99 // 100 + 1 = 100 are let.
        self.broken(letters(E, *range(102)), (99, 100, 1), "e", 0, 100, 101)

    def test_long_stretches(self):
        # 50,001 beats let 500 letters and one.
        row = letters(E, *range(0, 100 * 500, 100))
        self.kept(row, (1, 100, 1))
        self.kept(row + letters(E, 50000), (1, 100, 1))
        self.kept(letters(E, 0, 99), (1, 100, 1))
        self.broken(letters(E, 0, 98), (1, 100, 1), "e", 0, 98, 2)

    def test_late_stretches(self):
        self.kept(letters(E, 99999, 100000), (1, 2, 1))
        self.broken(letters(E, 99998, 99999, 100000), (1, 2, 1), "e", 99998, 100000, 3)
        self.broken(letters(E, 100000, 100000), (99, 100, 1), "e", 100000, 100000, 2)
        self.broken(letters(E, 100000, 100000), (1, 100, 1), "e", 100000 - 98, 100000, 2)
        self.broken(letters(E, 3, 100000, 100000), (1, 100, 1), "e", 100000 - 98, 100000, 2)

    def test_the_least_begin_may_be_a_beat_without_letters(self):
        self.broken(letters(E, 50, 50), (1, 100, 1), "e", 0, 50, 2)
        self.broken(letters(E, 120, 120), (1, 100, 1), "e", 22, 120, 2)
        self.broken(letters(E, 5, 5), (1, 2, 1), "e", 5, 5, 2)
        self.broken(letters(E, 5, 5), (1, 3, 1), "e", 4, 5, 2)

    def test_the_least_begin_has_the_most_letters_only_if_they_break_it(self):
        # From beat 0 on four letters are let in seven beats; from beat 4 on they are not.
        self.broken(letters(E, 0, 5, 6, 6), (1, 2, 1), "e", 4, 6, 3)
        self.broken(letters(E, 2, 5, 6, 6), (1, 2, 1), "e", 2, 6, 4)

    def test_all_letters_of_the_last_beat_count(self):
        self.broken(letters(E, 0, 0, 0, 0, 1), (1, 2, 1), "e", 0, 0, 4)
        self.broken(letters(E, 0, 2, 2, 2, 2), (1, 2, 1), "e", 0, 2, 5)
        self.broken(letters(E, 0, 2, 2, 2, 2, 2, 2), (1, 2, 5), "e", 0, 2, 7)

    def test_the_least_end_counts_first(self):
        row = letters(F, 3, 3) + letters(E, 9, 9, 9)
        self.broken(row, (1, 2, 1), "f", 3, 3, 2)
        row = letters(E, 3, 3) + letters(F, 9, 9, 9)
        self.broken(row, (1, 2, 1), "e", 3, 3, 2)
        # The end counts ahead of the begin.
        row = letters(F, 6, 6) + letters(E, 7) + letters(E, 8, 8, 8)
        self.broken(row, (1, 2, 1), "f", 6, 6, 2)

    def test_then_the_least_begin(self):
        row = letters(F, 0) + letters(E, 2, 2) + letters(F, 2, 2)
        self.broken(row, (1, 2, 1), "f", 0, 2, 3)
        row = letters(E, 0) + letters(E, 2, 2) + letters(F, 2, 2)
        self.broken(row, (1, 2, 1), "e", 0, 2, 3)

    def test_then_the_first_road_of_the_web(self):
        for row in (letters(E, 2, 2) + letters(F, 2, 2), letters(F, 2, 2) + letters(E, 2, 2)):
            self.broken(row, (1, 2, 1), "e", 2, 2, 2)
            same(self, keeps_rate(Web("road f b c\nroad e a b"), row, (1, 2, 1)), ("broken", "f", 2, 2, 2))
        # The letters need not be equally many.
        row = letters(E, 2, 2) + letters(F, 2, 2, 2)
        self.broken(row, (1, 100, 1), "e", 0, 2, 2)
        same(self, keeps_rate(Web("road z b c\nroad a b c"), letters(("a",), 0, 0) + letters(("z",), 0, 0), (1, 2, 1)),
             ("broken", "z", 0, 0, 2))

    def test_each_road_of_a_way_counts(self):
        row = letters(EF, 0) + letters(F, 0)
        self.broken(row, (1, 2, 1), "f", 0, 0, 2)
        row = letters(("h", "e", "f"), 0) + letters(("g", "h"), 0)
        self.broken(row, (1, 2, 1), "h", 0, 0, 2)
        self.kept(letters(E, 0) + letters(F, 0) + letters(("g",), 0), (1, 2, 1))

    def test_as_the_document_says_it(self):
        kept = 0
        for web, row, rate in random_cases(1500):
            right = told_plainly(web, row, rate)
            kept += right == ("kept",)
            same(self, keeps_rate(web, row, rate), right)
        self.assertTrue(300 < kept < 1200, kept)

    def test_great_rows(self):
        web = Web(line_of(60))
        way = tuple([name_of(k) for k in range(12)])
        row = tuple([(k * 5, way) for k in range(20000)])
        same(self, keeps_rate(web, row, (1, 5, 1)), ("kept",))
        # The k-th letter is one too many if (k - 50) * 96 is above (5 * k - 4) * 19.
        same(self, keeps_rate(web, row, (19, 96, 50)), ("broken", "aaa", 0, 4724 * 5, 4725))
        row = tuple([(100000, way)] * 20000)
        same(self, keeps_rate(web, row, (99, 100, 50)), ("broken", "aaa", 100000 - 20150, 100000, 20000))

    def test_what_keeps_a_rate_keeps_greater_ones(self):
        for web, row, (p, q, burst) in random_cases(300):
            if keeps_rate(web, row, (p, q, burst)) != ("kept",):
                continue
            for rate in ((p, q, burst + 1), (p, q, 50), (min(p + 1, q - 1), q, burst), (q - 1, q, burst)):
                same(self, keeps_rate(web, row, rate), ("kept",))
            same(self, keeps_rate(web, row[1::2], (p, q, burst)), ("kept",))
            same(self, keeps_rate(web, row[1:], (p, q, burst)), ("kept",))
            same(self, keeps_rate(web, shifted(web, row, 77), (p, q, burst)), ("kept",))

    def test_two_rows_joined_keep_the_sum(self):
        for seed in range(300):
            chance = random.Random(seed)
            web = random_web(chance)
            one, other = [random_row(chance, web, chance.randint(0, 12), 15) for _ in range(2)]
            q = chance.randint(3, 12)
            p = chance.randint(1, q - 2)
            r = chance.randint(1, q - p - 1)
            b, c = max(least_burst(web, one, p, q), 1), max(least_burst(web, other, r, q), 1)
            same(self, keeps_rate(web, joined(web, one, other), (p + r, q, b + c)), ("kept",))

    def test_bad_rates(self):
        for rate in BAD_RATES:
            with self.subTest(rate=rate):
                raised_with(self, BadRate, keeps_rate, rate, WEB, letters(E, 0), rate)

    def test_the_borders_of_rates(self):
        for rate in ((1, 2, 1), (1, 100, 50), (99, 100, 1), (99, 100, 50), (98, 99, 49)):
            self.kept(letters(E, 0), rate)

    def test_puttings_come_ahead_of_rates(self):
        raised(self, BadPuttings, None, keeps_rate, WEB, None, None)
        raised(self, BadPuttings, 0, keeps_rate, WEB, (1,), (1, 2))
        raised(self, BadRate, (1, 2), keeps_rate, WEB, (), (1, 2))

    def test_arguments_by_name(self):
        same(self, keeps_rate(rate=(1, 2, 1), puttings=letters(E, 0, 0), web=WEB), ("broken", "e", 0, 0, 2))


class LeastBurst(unittest.TestCase):
    def test_small_rows(self):
        same(self, least_burst(WEB, (), 1, 2), 0)
        same(self, least_burst(WEB, letters(E, 100000), 99, 100), 1)
        same(self, least_burst(WEB, letters(E, 0), 1, 100), 1)
        same(self, least_burst(WEB, letters(E, 0, 0, 0), 1, 2), 3)
        same(self, least_burst(WEB, letters(E, 0, 1, 2), 1, 2), 2)
        same(self, least_burst(WEB, letters(E, 0, 99), 1, 100), 1)
        same(self, least_burst(WEB, letters(E, 0, 98), 1, 100), 2)

    def test_however_great_it_is(self):
        same(self, least_burst(WEB, letters(E, *[7] * 51), 1, 2), 51)
        same(self, least_burst(WEB, letters(EF, *[7] * 20000), 99, 100), 20000)
        same(self, least_burst(WEB, letters(E, *range(20000)), 1, 100), 20000 - 200)

    def test_the_road_that_needs_most(self):
        row = letters(E, 0) + letters(F, 0, 0, 0) + letters(EF, 0)
        same(self, least_burst(WEB, row, 1, 2), 4)
        row = letters(EF, 0, 0) + letters(E, 0, 0) + letters(F, 9)
        same(self, least_burst(WEB, row, 1, 2), 4)

    def test_as_the_document_says_it(self):
        for web, row, (p, q, _) in random_cases(300):
            same(self, least_burst(web, row, p, q), burst_plainly(web, row, p, q))

    def test_the_row_keeps_it_and_not_one_less(self):
        for seed in range(200):
            chance = random.Random(seed)
            web = random_web(chance)
            row = random_row(chance, web, chance.randint(1, 60), chance.choice((5, 40, 300)))
            p, q, _ = random_rate(chance)
            burst = least_burst(web, row, p, q)
            if burst <= 50:
                same(self, keeps_rate(web, row, (p, q, burst)), ("kept",))
            if 2 <= burst <= 51:
                self.assertEqual(keeps_rate(web, row, (p, q, burst - 1))[0], "broken")

    def test_bad_rates(self):
        pairs = (
            (0, 2), (2, 2), (3, 2), (-1, 2), (1, 101), (1, 1), (0, 0), (True, 2), (1, True), ("1", 2), (1, "2"),
            (None, None), ((1,), 2), (1, [2]), ([], {}), (10 ** 39, 10 ** 39 + 1), (1, -2), (False, 1),
        )
        for p, q in pairs:
            with self.subTest(p=p, q=q):
                raised(self, BadRate, (p, q), least_burst, WEB, letters(E, 0), p, q)
                raised(self, BadPuttings, 0, least_burst, WEB, (0,), p, q)
        for p, q in ((1, 2), (1, 100), (99, 100)):
            same(self, least_burst(WEB, letters(E, 0), p, q), 1)

    def test_arguments_by_name(self):
        same(self, least_burst(q=2, p=1, puttings=letters(E, 0, 0), web=WEB), 2)


def room_plainly(web, row, rate, beat, way):
    """The room, by putting in one letter after the other."""
    many = 0
    while told_plainly(web, row + ((beat, way),) * (many + 1), rate) == ("kept",):
        many += 1
    return many


class RoomLeft(unittest.TestCase):
    def test_the_empty_row(self):
        for beat in (0, 1, 50000, 100000):
            for rate in ((1, 2, 1), (99, 100, 50), (1, 100, 7)):
                same(self, room_left(WEB, (), rate, beat, EF), rate[2])

    def test_at_the_beat_of_the_last_putting(self):
        row = letters(E, 4, 4)
        same(self, room_left(WEB, row, (1, 2, 5), 4, E), 3)
        same(self, room_left(WEB, row, (1, 2, 2), 4, E), 0)
        same(self, room_left(WEB, row, (1, 2, 2), 4, F), 2)
        same(self, room_left(WEB, row, (1, 2, 2), 4, EF), 0)
        row = letters(E, 3) + letters(F, 4)
        same(self, room_left(WEB, row, (1, 2, 2), 4, E), 2)
        same(self, room_left(WEB, row, (1, 3, 2), 4, E), 1)

    def test_behind_the_last_putting(self):
        row = letters(E, 4, 4)
        rooms = [room_left(WEB, row, (1, 3, 2), beat, E) for beat in range(4, 13)]
        same(self, rooms, [0, 0, 1, 1, 1, 2, 2, 2, 2])
        same(self, room_left(WEB, row, (1, 3, 2), 100000, E), 2)

    def test_the_least_room_of_several_roads(self):
        row = letters(E, 0) + letters(F, 0, 0)
        same(self, room_left(WEB, row, (1, 2, 3), 0, ("e", "f")), 1)
        same(self, room_left(WEB, row, (1, 2, 3), 0, ("h", "e")), 2)
        same(self, room_left(WEB, row, (1, 2, 3), 0, ("g", "h", "e", "f")), 1)
        same(self, room_left(WEB, row, (1, 2, 3), 0, ("f", "h", "e", "g")), 1)
        same(self, room_left(WEB, row, (1, 2, 3), 0, ("g", "h")), 3)

    def test_as_the_document_says_it(self):
        told = set()
        for web, row, rate in random_cases(800):
            if told_plainly(web, row, rate) != ("kept",):
                continue
            chance = random.Random(len(row))
            beat = (row[-1][0] if row else 0) + chance.choice((0, 0, 1, 2, 3, 5))
            for place in web.places:
                for way in ways_from(web, place, 4)[:3]:
                    found = room_left(web, row, rate, beat, way)
                    same(self, found, room_plainly(web, row, rate, beat, way))
                    told.add(found)
        self.assertEqual(told, {0, 1, 2, 3, 4})

    def test_nothing_is_said_of_lengths(self):
        row = letters(E, *[k * 5 for k in range(20000)])
        same(self, room_left(WEB, row, (1, 5, 9), 99996, E), 8)
        same(self, room_left(WEB, row, (1, 5, 9), 100000, F), 9)

    def test_bad_numbers(self):
        row = letters(E, 3, 7)
        for beat in (*[value for value in ODD_VALUES], 6, 3, 0, -1, 100001, "7", 10 ** 39):
            with self.subTest(beat=beat):
                raised_with(self, BadNumber, room_left, beat, WEB, row, (1, 2, 2), beat, E)
        for beat in (-1, 100001, True, False, None, "0", (0,)):
            with self.subTest(beat=beat):
                raised_with(self, BadNumber, room_left, beat, WEB, (), (1, 2, 2), beat, E)
        same(self, room_left(WEB, row, (1, 2, 2), 7, F), 2)
        same(self, room_left(WEB, (), (1, 2, 2), 0, F), 2)

    def test_bad_ways(self):
        for way in (*ODD_VALUES, "e", ["e"], ("e", "e"), ("e", "h"), ("a",), ("e", ["f"]), "", WEB):
            with self.subTest(way=way):
                raised_with(self, BadWay, room_left, way, WEB, (), (1, 2, 2), 0, way)

    def test_too_fast_tells_what_keeps_rate_tells(self):
        row = letters(E, 0, 0, 0) + letters(F, 5, 5, 5)
        raised(self, TooFast, ("broken", "e", 0, 0, 3), room_left, WEB, row, (1, 2, 2), 5, F)
        raised(self, TooFast, ("broken", "e", 0, 0, 3), room_left, WEB, row, (1, 2, 2), 99999, ("g",))
        for web, row, rate in random_cases(200):
            told = told_plainly(web, row, rate)
            if told != ("kept",):
                raised(self, TooFast, told, room_left, web, row, rate, 100000, (web.roads[0][0],))

    def test_which_comes_first(self):
        fast = letters(E, 1, 1, 1)
        raised(self, BadPuttings, 0, room_left, WEB, (None,), None, None, None)
        raised(self, BadRate, None, room_left, WEB, fast, None, None, None)
        raised(self, BadNumber, 0, room_left, WEB, fast, (1, 2, 2), 0, None)
        raised(self, BadWay, (), room_left, WEB, fast, (1, 2, 2), 1, ())
        raised(self, TooFast, ("broken", "e", 1, 1, 3), room_left, WEB, fast, (1, 2, 2), 1, F)
        for rate in BAD_RATES:
            raised_with(self, BadRate, room_left, rate, WEB, fast, rate, -1, None)

    def test_arguments_by_name(self):
        same(self, room_left(way=E, beat=0, rate=(1, 2, 3), puttings=letters(E, 0), web=WEB), 2)


def fullest_plainly(web, way, rate, beats):
    """The fullest row, by putting in one letter after the other."""
    row = ()
    for beat in range(beats):
        while told_plainly(web, row + ((beat, way),), rate) == ("kept",):
            row += ((beat, way),)
    return row


class Fullest(unittest.TestCase):
    def test_no_beats_and_one(self):
        same(self, fullest(WEB, E, (1, 2, 3), 0), ())
        same(self, fullest(WEB, EF, (1, 2, 3), 1), ((0, EF), (0, EF), (0, EF)))
        same(self, fullest(WEB, EF, (99, 100, 50), 1), ((0, EF),) * 50)

    def test_many_beats(self):
        row = fullest(WEB, E, (1, 2, 1), 2000)
        same(self, row, letters(E, 0, *range(1, 2000, 2)))
        row = fullest(WEB, E, (1, 3, 2), 2000)
        same(self, row, letters(E, 0, 0, *range(2, 2000, 3)))
        row = fullest(WEB, EF, (99, 100, 50), 2000)
        same(self, [len(row), keeps_rate(WEB, row, (99, 100, 50))], [1980 + 50, ("kept",)])
        same(self, len(fullest(WEB, E, (1, 100, 1), 2000)), 21)

    def test_as_the_document_says_it(self):
        for seed in range(60):
            chance = random.Random(seed)
            rate = random_rate(chance)
            way = chance.choice((E, EF, ("f", "h", "e")))
            beats = chance.randint(0, 12)
            same(self, fullest(WEB, way, rate, beats), fullest_plainly(WEB, way, rate, beats))

    def test_it_keeps_the_rate_and_has_no_room(self):
        for seed in range(30):
            rate = random_rate(random.Random(seed))
            row = fullest(WEB, EF, rate, 120)
            same(self, keeps_rate(WEB, row, rate), ("kept",))
            if row[-1][0] == 119:
                same(self, room_left(WEB, row, rate, 119, F), 0)
            same(self, len(row), (120 * rate[0]) // rate[1] + rate[2])

    def test_bad_arguments_in_their_order(self):
        for way in (*ODD_VALUES, "e", ["e"], ("e", "g", "f"), ("a",), ""):
            with self.subTest(way=way):
                raised_with(self, BadWay, fullest, way, WEB, way, None, None)
        for rate in BAD_RATES:
            with self.subTest(rate=rate):
                raised_with(self, BadRate, fullest, rate, WEB, E, rate, -1)
        for beats in (-1, 2001, True, False, None, "5", (), [5], 10 ** 39):
            with self.subTest(beats=beats):
                raised_with(self, BadNumber, fullest, beats, WEB, E, (1, 2, 1), beats)

    def test_arguments_by_name(self):
        same(self, fullest(beats=1, rate=(1, 2, 1), way=E, web=WEB), ((0, E),))


if __name__ == "__main__":
    unittest.main()
