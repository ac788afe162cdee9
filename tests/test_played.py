"""Rows of puttings played: played, crossings, all_ages."""

import random
import unittest

from plainly import WORDS, by_rule, random_order, random_ranks, random_rule, yard_after, yard_played_out
from roadqueues.errors import BadNumber, BadPuttings, BadRule
from roadqueues.webs import Web
from roadqueues.yards import all_ages, crossings, played
from support import ODD_VALUES, line_of, name_of, raised, raised_with, random_row, random_web, same
from test_yards import NO_RULES

WEB = Web("road e u v\nroad f v w\nroad g v w\nroad h w u")
E, F, EF = ("e",), ("f",), ("e", "f")
ROW = ((0, EF), (0, E), (1, F), (7, E))


def played_plainly(web, row, rule, beats):
    """What played tells, of the plain yard."""
    yard = yard_after(web, row, by_rule(rule), beats)
    home = [number for number, _ in yard.homes]
    rest = [one.number for one in yard.all if one.number not in home]
    return (tuple(sorted(yard.homes)), tuple(rest), yard.most)


def crossings_plainly(web, row, rule, beats):
    """What crossings tells, of the plain yard."""
    told = yard_after(web, row, by_rule(rule), beats).crossings()
    return told + ((),) * (len(row) - len(told))


def ages_plainly(web, row, rule):
    """What all_ages tells, of the plain yard."""
    return tuple([one.age() for one in yard_played_out(web, row, by_rule(rule)).all])


def cases(many):
    """Some webs, each with a row and a rule."""
    for seed in range(many):
        chance = random.Random(seed)
        web = random_web(chance, 7)
        row = random_row(chance, web, chance.randint(0, 12), chance.choice((0, 3, 9, 20)))
        yield chance, web, row, random_rule(chance, len(row))


class Played(unittest.TestCase):
    def test_beats_by_beats(self):
        same(self, played(WEB, ROW, "eldest", 0), ((), (), 0))
        same(self, played(WEB, ROW, "eldest", 1), ((), (0, 1), 2))
        same(self, played(WEB, ROW, "eldest", 2), (((0, 2), (1, 2)), (2,), 2))
        same(self, played(WEB, ROW, "eldest", 3), (((0, 2), (1, 2), (2, 2)), (), 2))
        same(self, played(WEB, ROW, "eldest", 7), (((0, 2), (1, 2), (2, 2)), (), 2))
        same(self, played(WEB, ROW, "eldest", 8), (((0, 2), (1, 2), (2, 2), (3, 1)), (), 2))
        same(self, played(WEB, ROW, "eldest", 100000), (((0, 2), (1, 2), (2, 2), (3, 1)), (), 2))

    def test_homes_ascend_by_number(self):
        same(self, played(WEB, ROW, "nearest", 9)[0], ((0, 3), (1, 1), (2, 1), (3, 1)))

    def test_letters_behind_the_told_beats_are_neither_home_nor_in_rest(self):
        row = ((3, E), (4, E), (100000, F))
        same(self, played(WEB, row, "eldest", 3), ((), (), 0))
        same(self, played(WEB, row, "eldest", 4), (((0, 1),), (), 1))
        same(self, played(WEB, row, "eldest", 100000), (((0, 1), (1, 1)), (), 1))
        same(self, crossings(WEB, row, "eldest", 100000), ((3,), (4,), ()))
        same(self, played(WEB, ((1, E), (1, E), (2, E)), "eldest", 2), (((0, 1),), (1,), 2))
        # While one waits, others come.
        same(self, played(WEB, ((0, E), (0, E), (1, E), (2, E)), "eldest", 2), (((0, 1), (1, 2)), (2,), 2))

    def test_the_empty_row(self):
        for rule in ("eldest", (("number", "down"),), ()):
            for beats in (0, 1, 100000):
                same(self, [played(WEB, (), rule, beats), crossings(WEB, (), rule, beats)], [((), (), 0), ()])
            same(self, all_ages(WEB, (), rule), ())

    def test_the_most_that_stood_at_one_road(self):
        # Letters at other roads are not counted together, nor those that were there at other beats.
        same(self, played(WEB, ((0, E), (0, F), (0, ("g",)), (1, E)), "eldest", 9)[2], 1)
        same(self, played(WEB, ((0, E),) * 5 + ((1, E),) * 3, "eldest", 9)[2], 7)
        same(self, played(WEB, ((0, EF),) * 5 + ((1, F),) * 3 + ((9, F),), "nearest", 2)[2], 5)
        # Three come to stand at f at beat 1.
        same(self, played(WEB, ((0, EF), (1, F), (1, F)), "eldest", 1)[2], 1)
        same(self, played(WEB, ((0, EF), (1, F), (1, F)), "eldest", 2)[2], 3)

    def test_crossings_are_cut_off(self):
        row = ((0, ("e", "f", "h")), (0, ("e", "g")))
        whole = ((0, 1, 2), (1, 2))
        for beats in range(6):
            right = tuple([tuple([beat for beat in line if beat < beats]) for line in whole])
            same(self, crossings(WEB, row, "farthest", beats), right)

    def test_ages_of_letters_put_in_late(self):
        same(self, all_ages(WEB, ((100000, EF), (100000, EF)), "eldest"), (2, 3))
        same(self, all_ages(WEB, ((5, E), (100000, EF), (100000, EF)), "youngest"), (1, 2, 3))
        web = Web(line_of(12))
        way = tuple([name_of(k) for k in range(12)])
        same(self, all_ages(web, ((100000, way),) * 100, "first"), tuple(range(12, 112)))

    def test_all_are_beside_a_plain_yard(self):
        for chance, web, row, rule in cases(250):
            with self.subTest(web=web.text, row=row, rule=rule):
                same(self, all_ages(web, row, rule), ages_plainly(web, row, rule))
                for beats in (0, chance.randint(1, 6), chance.randint(7, 30), 60):
                    same(self, played(web, row, rule, beats), played_plainly(web, row, rule, beats))
                    same(self, crossings(web, row, rule, beats), crossings_plainly(web, row, rule, beats))

    def test_all_letters_come_home(self):
        for _, web, row, rule in cases(60):
            same(self, played(web, row, rule, 100000)[1], ())
            homes = played(web, row, rule, 100000)[0]
            same(self, homes, tuple(enumerate(all_ages(web, row, rule))))

    def test_no_road_rests_at_which_letters_stand(self):
        for _, web, row, rule in cases(60):
            table = crossings(web, row, rule, 1000)
            busy = {(road, beat) for (_, way), line in zip(row, table) for road, beat in zip(way, line)}
            for (begin, way), line in zip(row, table):
                for road, came, beat in zip(way, (begin, *[one + 1 for one in line]), line):
                    self.assertLessEqual({(road, one) for one in range(came, beat + 1)}, busy)

    def test_equal_calls_return_equal_results(self):
        for _, web, row, rule in cases(10):
            other = Web(web.text)
            same(self, played(web, row, rule, 9), played(other, tuple(list(row)), rule, 9))
            same(self, crossings(web, row, rule, 9), crossings(other, row, rule, 9))
            same(self, all_ages(web, row, rule), all_ages(other, row, rule))

    def test_many_letters(self):
        row = ((0, EF),) * 20000
        same(self, all_ages(WEB, row, "eldest"), tuple(range(2, 20002)))
        same(self, played(WEB, row, tuple(range(20000, 0, -1)), 3), (((19998, 3), (19999, 2)), tuple(range(19998)), 20000))

    def test_arguments_may_be_passed_by_name(self):
        same(self, played(web=WEB, puttings=ROW, rule="last", beats=1), ((), (0, 1), 2))
        same(self, crossings(web=WEB, puttings=ROW, rule="last", beats=1), ((0,), (), (), ()))
        same(self, all_ages(web=WEB, puttings=ROW, rule="last"), (2, 2, 2, 1))


class Ranks(unittest.TestCase):
    def test_least_ranks_go_first_and_of_equal_ones_the_least_number(self):
        row = ((0, E),) * 4
        same(self, crossings(WEB, row, (3, 2, 1, 0), 9), ((3,), (2,), (1,), (0,)))
        same(self, crossings(WEB, row, (0, -1, 0, -1), 9), ((2,), (0,), (3,), (1,)))
        same(self, crossings(WEB, row, (7, 7, 7, 7), 9), ((0,), (1,), (2,), (3,)))
        same(self, crossings(WEB, row, (10 ** 39, 0, -10 ** 39, 1), 9), ((3,), (1,), (0,), (2,)))

    def test_ranks_hold_at_each_road(self):
        row = ((0, ("e", "f")), (0, ("h", "e")), (1, ("f",)), (1, ("e",)))
        same(self, crossings(WEB, row, (2, 1, 3, 0), 9), ((0, 1), (0, 2), (2,), (1,)))
        same(self, crossings(WEB, row, (3, 0, 2, 1), 9), ((0, 2), (0, 1), (1,), (2,)))

    def test_ranks_that_stand_for_a_word(self):
        for seed in range(60):
            chance = random.Random(seed)
            web = random_web(chance)
            row = random_row(chance, web, chance.randint(1, 10), 8)
            lengths = [len(way) for _, way in row]
            pairs = (
                ("eldest", tuple([beat for beat, _ in row])),
                ("youngest", tuple([-beat for beat, _ in row])),
                ((("number", "down"),), tuple(range(0, -len(row), -1))),
                ((("length", "up"),), tuple(lengths)),
                ((("length", "down"), ("beat", "up")), tuple([beat - 1000 * len(way) for beat, way in row])),
            )
            for rule, ranks in pairs:
                same(self, crossings(web, row, ranks, 100), crossings(web, row, rule, 100))
                same(self, played(web, row, ranks, 7), played(web, row, rule, 7))
                same(self, all_ages(web, row, ranks), all_ages(web, row, rule))

    def test_ranks_too_many_or_too_few(self):
        row = ((0, E), (1, E))
        for ranks in ((), (1,), (1, 2, 3), (1, 2, 3, 4, 5, 6, 7)):
            raised(self, BadRule, ranks, played, WEB, row, ranks, 5)
        raised(self, BadRule, (0,), all_ages, WEB, (), (0,))

    def test_what_is_no_ranks(self):
        row = ((0, E), (1, E))
        for ranks in ([1, 2], (1, True), (False, 1), (1, "2"), (1, None), (1, (2,)), ("beat", "up"), {0: 1, 1: 2}, "ab"):
            raised(self, BadRule, ranks, crossings, WEB, row, ranks, 5)


class WrongArguments(unittest.TestCase):
    CALLS = (
        lambda row, rule, beats: played(WEB, row, rule, beats),
        lambda row, rule, beats: crossings(WEB, row, rule, beats),
    )

    def test_puttings_first_then_rule_then_beats(self):
        for call in self.CALLS:
            raised(self, BadPuttings, None, call, None, None, None)
            raised(self, BadPuttings, None, call, [], "eldest", 5)
            raised(self, BadPuttings, 1, call, ((0, E), (0, ("e", "e"))), (1, 2), -1)
            raised(self, BadPuttings, 2, call, ((0, E), (3, E), (2, E)), "eldest", 5)
            raised(self, BadRule, "oldest", call, ROW, "oldest", None)
            raised(self, BadNumber, None, call, ROW, "eldest", None)
        raised(self, BadPuttings, None, all_ages, WEB, None, None)
        raised(self, BadPuttings, 0, all_ages, WEB, ((0, ("x",)),), "oldest")
        raised(self, BadPuttings, None, all_ages, WEB, ((0, E),) * 20001, "oldest")

    def test_rules_that_are_none(self):
        row = ((0, E), (1, EF), (1, F))
        for value in NO_RULES:
            for call in self.CALLS:
                raised_with(self, BadRule, call, value, row, value, -1)
            raised_with(self, BadRule, all_ages, value, WEB, row, value)

    def test_beats(self):
        others = ("", "5", WEB, -1, 100001, -10 ** 39, (5,), [5])
        for value in (*[one for one in ODD_VALUES if type(one) is not int], 10 ** 39, *others):
            for call in self.CALLS:
                raised_with(self, BadNumber, call, value, ROW, "eldest", value)
        for value in (True, False):
            raised(self, BadNumber, value, played, WEB, ROW, "eldest", value)
        for beats in (0, 100000):
            self.assertEqual(len(crossings(WEB, ROW, "eldest", beats)), 4)

    def test_words_and_orders_are_let(self):
        chance = random.Random(0)
        for rule in (*WORDS, *[random_order(chance) for _ in range(20)], random_ranks(chance, 4)):
            self.assertEqual(len(all_ages(WEB, ROW, rule)), 4)
            self.assertEqual(len(played(WEB, ROW, rule, 3)), 3)

    def test_nothing_that_is_passed_in_is_changed(self):
        row, order = ((0, EF), (0, E)), (("left", "up"),)
        web = Web(WEB.text)
        all_ages(web, row, order)
        played(web, row, order, 5)
        same(self, [web.text, web.roads, row, order], [WEB.text, WEB.roads, ((0, EF), (0, E)), (("left", "up"),)])


if __name__ == "__main__":
    unittest.main()
