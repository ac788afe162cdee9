"""Worst ages and fullest yards on small webs, beside plain searches through all rows that keep the rate."""

import random
import unittest

from plainly import WORDS, by_rule, yard_played_out
from roadqueues.errors import BadNumber, BadRate, BadRule, BadWays, TooGreat
from roadqueues.rates import fullest, keeps_rate
from roadqueues.webs import Web
from roadqueues.worst import fullest_yard, shows_worst, worst
from roadqueues.yards import all_ages
from support import ODD_VALUES, raised, raised_with, same
from test_yards import NO_RULES
from worstly import all_rows, fullness, keeps_plainly, random_case, worst_plainly

WEB = Web("road e a b\nroad f b c\nroad g c a\nroad h a b")
E, F, G, H, EF, FG, EFG = ("e",), ("f",), ("g",), ("h",), ("e", "f"), ("f", "g"), ("e", "f", "g")
# One way of one road; ways that share roads, on a line, on a ring, and with a road beside.
WAYS = ((E,), (EF,), (E, EF), (EF, F), (EF, FG), (EF, FG, ("g", "e")), (E, EFG, FG), (E, ("h", "f")), (EF, F, ("h", "f")))
RATES = ((1, 2, 1), (1, 2, 2), (1, 2, 3), (2, 3, 1), (2, 3, 2), (1, 3, 2), (3, 4, 1), (5, 6, 2), (11, 12, 1), (1, 6, 2))


def told_of_row(web, ways, rule, rate, limit, row):
    """(how full the yard is at the last putting, greatest age), None if the row is none of those that are meant."""
    if not row or not keeps_plainly(row, rate) or not all([way in ways for _, way in row]):
        return None
    ages = [one.age() for one in yard_played_out(web, row, by_rule(rule)).all]
    return (fullness(web, row, rule, row[-1][0]), max(ages))


class Worst(unittest.TestCase):
    def agree(self, web, ways, rule, rate, limit):
        """Both functions beside the plain search; returns what worst told."""
        told = worst(web, ways, rule, rate, limit)
        right = worst_plainly(web, ways, rule, rate, limit)
        full, age = told_of_row(web, ways, rule, rate, limit, told[-1])
        same(self, keeps_rate(web, told[-1], rate), ("kept",))
        if right == ("beyond",):
            self.assertEqual((told[0], len(told), full > limit), ("beyond", 2, True))
            same(self, fullest_yard(web, ways, rule, rate, limit), limit + 1)
        else:
            same(self, told[:-1], right[:2])
            same(self, [len(told), age, max(all_ages(web, told[-1], rule))], [3, told[1], told[1]])
            same(self, fullest_yard(web, ways, rule, rate, limit), right[2])
        same(self, shows_worst(web, ways, rule, rate, limit, told), True)
        return told

    def test_told_ways_by_all_rules(self):
        kinds = {}
        for place, ways in enumerate(WAYS):
            for at, rate in enumerate(RATES):
                # Each pair of ways and a rate has some of the rules and of the limits.
                for step, rule in enumerate(sorted(WORDS)):
                    if (place + at + step) % 4 == 0:
                        kind = self.agree(WEB, ways, rule, rate, 4 - (place + step) % 2)[0]
                        kinds[kind] = kinds.get(kind, 0) + 1
        self.assertGreater(min(kinds["within"], kinds["beyond"]), 30)

    def test_webs_by_chance(self):
        ages = set()
        for seed in range(260):
            chance = random.Random(seed)
            web, ways, rate, limit = random_case(chance)
            for rule in chance.sample(sorted(WORDS), 8 if seed % 13 == 0 else 2):
                with self.subTest(seed=seed, rule=rule):
                    ages.add(self.agree(web, ways, rule, rate, limit)[1])
        self.assertTrue({1, 2, 3, 4, 5, 6} <= ages)

    def test_all_limits(self):
        for rule in WORDS:
            for ways in ((E,), (E, EF), (EF, FG)):
                told = [self.agree(WEB, ways, rule, (1, 2, 2), limit)[0] for limit in (1, 2, 3, 4)]
                self.assertEqual(told, sorted(told))
                self.assertEqual(told[0], "beyond")

    def test_rules_tell_apart(self):
        ring = Web("road f b a\nroad e a b\nroad g b a")
        cases = (
            (ring, (("f", "e"), ("f", "e", "g"), ("g",)), (7, 10, 1),
             {"eldest": 3, "youngest": 7, "farthest": 3, "nearest": 3, "first": 4, "last": 5, "begun": 6, "gone": 3}),
            (Web("road f b d\nroad e d a"), (("e",), ("f", "e")), (2, 3, 3),
             {"eldest": 4, "youngest": 10, "farthest": 4, "nearest": 4, "first": 6, "last": 9, "begun": 10, "gone": 7}),
        )
        for web, ways, rate, ages in cases:
            for rule in WORDS:
                same(self, self.agree(web, ways, rule, rate, 4)[:2], ("within", ages[rule]))
        same(self, [worst(WEB, (E,), rule, (1, 2, 3), 4)[1] for rule in ("eldest", "first", "youngest", "last")],
             [3, 3, 5, 5])

    def test_one_way_of_one_road(self):
        for q in range(2, 13):
            for burst in range(1, min(12 // q, 4) + 1):
                for p in range(1, q):
                    for rule in WORDS:
                        same(self, fullest_yard(WEB, (E,), rule, (p, q, burst), 4), burst)
                    for rule in ("eldest", "first", "nearest", "farthest", "begun", "gone"):
                        told = worst(WEB, (E,), rule, (p, q, burst), burst)
                        same(self, told[:2], ("within", burst))
                    if burst > 1:
                        same(self, fullest_yard(WEB, (E,), "last", (p, q, burst), burst - 1), burst)

    def test_long_stays(self):
        # By "last" letter 0 waits for as long as the rate lets others come behind it.
        for rate, age in (((1, 2, 2), 3), ((2, 3, 2), 4), ((3, 4, 2), 5), ((5, 6, 2), 7), ((2, 3, 4), 10), ((1, 3, 4), 5)):
            same(self, self.agree(WEB, (E,), "last", rate, 4)[:2], ("within", age))
            row = fullest(WEB, E, rate, 20)
            self.assertEqual(max(all_ages(WEB, row, "last")), age)

    def test_wider_is_not_less(self):
        for seed in range(250):
            chance = random.Random(seed)
            web, ways, (p, q, burst), limit = random_case(chance)
            rule = chance.choice(sorted(WORDS))
            told = worst(web, ways, rule, (p, q, burst), limit)
            full = fullest_yard(web, ways, rule, (p, q, burst), limit)
            for more in range(limit, 5):
                wider = worst(web, ways, rule, (p, q, burst), more)
                if told[0] == "within":
                    same(self, wider[:2], told[:2])
                    same(self, fullest_yard(web, ways, rule, (p, q, burst), more), full)
                else:
                    self.assertGreater(fullest_yard(web, ways, rule, (p, q, burst), more), limit)
            fewer = [ways[:k] + ways[k + 1:] for k in range(len(ways)) if len(ways) > 1]
            for some, less in [(one, burst) for one in fewer] + [(ways, burst - 1)] * (burst > 1):
                self.assertLessEqual(fullest_yard(web, some, rule, (p, q, less), limit), full)
                if told[0] == "within":
                    other = worst(web, some, rule, (p, q, less), limit)
                    self.assertEqual(other[0], "within")
                    self.assertLessEqual(other[1], told[1])

    def test_sequences_at_one_beat_count(self):
        # Two letters come to f at once, from e and h: who is put in first goes first.
        web = Web("road e a b\nroad h a b\nroad f b c")
        for ways in ((("e", "f"), ("h", "f")), (("e", "f"), ("f",), ("h", "f"))):
            for rule in WORDS:
                for rate in ((1, 2, 2), (2, 3, 2), (1, 2, 1)):
                    self.agree(web, ways, rule, rate, 4)


class Shown(unittest.TestCase):
    def test_all_short_rows(self):
        cases = (
            ((E,), (1, 2, 2), 4), ((E,), (1, 2, 2), 1), ((E, EF), (1, 2, 1), 4), ((E, EF), (1, 2, 2), 2),
            ((EF, FG), (2, 3, 1), 3), ((EF, ("h", "f")), (1, 2, 1), 2), ((EF, ("h", "f")), (1, 2, 1), 1),
        )
        for place, (ways, rate, limit) in enumerate(cases):
            for rule in sorted(WORDS)[place % 2::2]:
                told = worst(WEB, ways, rule, rate, limit)
                full = fullest_yard(WEB, ways, rule, rate, limit)
                rows = list(all_rows(ways, rate, 4, 4))
                shown = 0
                for row in random.Random(place).sample(rows, min(len(rows), 40)):
                    found = told_of_row(WEB, ways, rule, rate, limit, row)
                    if found is not None and told[0] == "within":
                        self.assertLessEqual(found[0], full)
                        self.assertLessEqual(found[1], told[1])
                    for age in (1, 2, 3, 4, 5):
                        right = found is not None and told[0] == "within" and found[1] == age == told[1]
                        same(self, shows_worst(WEB, ways, rule, rate, limit, ("within", age, row)), right)
                        shown += right
                    right = found is not None and told[0] == "beyond" and found[0] > limit
                    same(self, shows_worst(WEB, ways, rule, rate, limit, ("beyond", row)), right)
                    shown += right
                self.assertGreater(shown, 0)

    def test_other_right_rows(self):
        row = ((0, E), (0, E), (1, E))
        for other in (row, ((9, E), (9, E), (10, E)), (*row, (50, E)), ((0, E), (9, E), (9, E), (10, E)),
                      ((99999, E), (99999, E), (100000, E)), ((0, E), (0, E), (1, E), (2, E))):
            right = keeps_plainly(other, (1, 2, 2))
            same(self, shows_worst(WEB, (E,), "youngest", (1, 2, 2), 4, ("within", 3, other)), right)
            same(self, shows_worst(WEB, (E,), "youngest", (1, 2, 2), 4, ("within", 2, other)), False)
            same(self, shows_worst(WEB, (E,), "youngest", (1, 2, 2), 4, ("within", 4, other)), False)
            same(self, shows_worst(WEB, (E,), "youngest", (1, 2, 2), 4, ("beyond", other)), False)
        # All letters are younger than the greatest age.
        same(self, shows_worst(WEB, (E,), "youngest", (1, 2, 2), 4, ("within", 3, ((0, E), (1, E)))), False)

    def test_beyond_is_told_by_the_last_putting(self):
        call = (WEB, (E,), "eldest", (1, 2, 2), 1)
        for row, right in (
            (((0, E), (0, E)), True), (((7, E), (7, E)), True), (((0, E), (0, E), (1, E)), True),
            (((0, E), (0, E), (2, E)), False), (((0, E),), False), ((), False), (((0, E), (0, E), (0, E)), False),
            (((0, E), (2, E), (2, E)), True), (((0, E), (0, E), (9, E), (9, E)), True), (((0, EF), (0, EF)), False),
            (((0, E), (0, EF)), False), (((0, H), (0, H)), False),
        ):
            same(self, shows_worst(*call, ("beyond", row)), right)

    def test_rows_that_break_the_rate_or_have_other_ways(self):
        call = (WEB, (E,), "eldest", (1, 2, 2), 4)
        same(self, shows_worst(*call, ("within", 2, ((0, E), (0, E)))), True)
        for row in (((0, E), (0, E), (0, E)), ((0, E), (0, E), (1, E), (1, E)), ((0, EF),), ((0, E), (0, E), (40, H)),
                    ((0, E), (0, E), (0, F)), ((0, F), (0, F)), ((0, H), (0, H))):
            for age in (1, 2, 3):
                same(self, shows_worst(*call, ("within", age, row)), False)

    def test_values_of_any_kind(self):
        row = ((0, E), (0, E))
        within, beyond = (WEB, (E,), "eldest", (1, 2, 2), 4), (WEB, (E,), "eldest", (1, 2, 2), 1)
        same(self, [shows_worst(*within, ("within", 2, row)), shows_worst(*beyond, ("beyond", row))], [True, True])
        odd_rows = (*ODD_VALUES, "", "0 e\n0 e", WEB, [(0, E), (0, E)], ((0, E), [0, E]), ((0, E), (0, ["e"])), ((0, E), (False, E)),
                    ((1, E), (0, E)), ((0, E), (-1, E)), ((0, E), (0,)), ((0, E), (0, E, 0)), ((0, E), (0, ())), ((0, E), None),
                    ((100001, E), (100001, E)), ((0, E), (0, ("x",))), tuple([(k * 4, E) for k in range(20001)]))
        for value in (*ODD_VALUES, "", "within", "beyond", WEB, ("within",), ("beyond",), ("within", 2), ("within", row),
                      ("within", 2, row, 1), ("beyond", row, row), ["within", 2, row], ["beyond", row], (2, row),
                      ("within", True, row), ("within", 2.0, row), ("within", "2", row), ("within", None, row),
                      ("within", (2,), row), ("beyond", 2, row), ("Within", 2, row), (None, 2, row), (True, row),
                      *[("within", 2, one) for one in odd_rows], *[("beyond", one) for one in odd_rows]):
            same(self, shows_worst(*within, value), False)
            same(self, shows_worst(*beyond, value), False)
        # An age of 1 is not True.
        same(self, shows_worst(WEB, (E,), "eldest", (1, 2, 1), 4, ("within", 1, ((0, E),))), True)
        same(self, shows_worst(WEB, (E,), "eldest", (1, 2, 1), 4, ("within", True, ((0, E),))), False)

    def test_long_rows(self):
        row = tuple([(k * 4, E) for k in range(19998)]) + ((80000, E), (80000, E))
        same(self, shows_worst(WEB, (E,), "eldest", (1, 2, 2), 4, ("within", 2, row)), True)
        same(self, shows_worst(WEB, (E,), "eldest", (1, 2, 2), 1, ("beyond", row)), True)


class WrongArguments(unittest.TestCase):
    def raised(self, error, value, *rest):
        for function in (worst, fullest_yard):
            raised(self, error, value, function, WEB, *rest)
        raised(self, error, value, shows_worst, WEB, *rest, None)

    def test_ways_that_are_none(self):
        web = Web("road e a b\nroad f b c\nroad g c a\nroad h a b")
        for value in (*ODD_VALUES, "", "e", web, [E], ("e",), (["e"],), (E, E), (EF, E), (F, E), (E, EF, EF), (E, EF, F, G),
                      ((),), (E, ()), (E, None), (E, ("x",)), (("f", "e"),), (("e", "e"),), (E, [*EF]), {E: 1},
                      (E, EFG, H), (EFG, ("h", "f")), (("e", "f", "g", "h"),), (E, F, G, H)):
            for function in (worst, fullest_yard):
                raised_with(self, BadWays, function, value, web, value, None, None, None)
            raised_with(self, BadWays, shows_worst, value, web, value, None, None, None, None)
        for ways in ((E, EFG, FG), (EFG,), (E, F, G), (("e", "f", "g"), ("f", "g", "e"), ("g", "e", "f"))):
            self.assertIn(worst(web, ways, "eldest", (1, 2, 1), 4)[0], ("within", "beyond"))

    def test_rules_that_are_none(self):
        for rule in (*NO_RULES, (("beat", "up"),), (("left", "down"), ("number", "up")), (1, 2)):
            for function in (worst, fullest_yard):
                raised_with(self, BadRule, function, rule, WEB, (E,), rule, None, None)
            raised_with(self, BadRule, shows_worst, rule, WEB, (E,), rule, None, None, None)

    def test_rates_that_are_none(self):
        for rate in (*ODD_VALUES, "", WEB, (1, 2), [1, 2, 1], (1, 2, 1, 1), (0, 2, 1), (2, 2, 1), (True, 2, 1), (1, 2, True),
                     (1, 2, 0), (1, 2, 51), (1, 101, 1), (1, "2", 1), (1, 2, None)):
            for function in (worst, fullest_yard):
                raised_with(self, BadRate, function, rate, WEB, (E,), "eldest", rate, None)
            raised_with(self, BadRate, shows_worst, rate, WEB, (E,), "eldest", rate, None, None)

    def test_bursts_that_are_too_great(self):
        for rate in ((1, 2, 7), (1, 3, 5), (2, 3, 5), (1, 4, 4), (1, 5, 3), (1, 6, 3), (1, 7, 2), (6, 7, 2), (1, 13, 1),
                     (12, 13, 1), (1, 100, 1), (99, 100, 50)):
            self.raised(TooGreat, "burst", (E,), "eldest", rate, None)
        for rate in ((1, 2, 6), (1, 3, 4), (3, 4, 3), (5, 6, 2), (4, 5, 2), (11, 12, 1), (1, 11, 1), (3, 7, 1)):
            self.assertIn(worst(WEB, (E,), "eldest", rate, 4)[0], ("within", "beyond"))

    def test_limits_that_are_none(self):
        for limit in (*ODD_VALUES, "", "1", WEB, 0, 5, -1, 10 ** 39, (1,), 2.0):
            if not (type(limit) is int and 1 <= limit <= 4):
                for function in (worst, fullest_yard):
                    raised_with(self, BadNumber, function, limit, WEB, (E,), "last", (1, 2, 1), limit)
                raised_with(self, BadNumber, shows_worst, limit, WEB, (E,), "last", (1, 2, 1), limit, None)

    def test_what_is_told_first(self):
        self.raised(BadWays, (E, E), (E, E), "x", (1, 1, 1), 9)
        self.raised(BadRule, "x", (E,), "x", (1, 1, 1), 9)
        self.raised(BadRate, (1, 1, 50), (E,), "last", (1, 1, 50), 9)
        self.raised(TooGreat, "burst", (E,), "last", (1, 2, 50), 9)
        self.raised(BadNumber, 9, (E,), "last", (1, 2, 6), 9)


if __name__ == "__main__":
    unittest.main()
