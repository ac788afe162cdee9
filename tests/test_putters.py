"""Putters: rows within the rate, by which more than any told number wait at one road."""

import random
import unittest

from plainly import WORDS, by_rule, yard_after
from roadqueues.errors import BadNumber, BadRate, BadRule, TooSlow
from roadqueues.putters import blown_web, putter
from roadqueues.rates import keeps_rate
from roadqueues.webs import Web, is_way
from roadqueues.yards import played
from support import ODD_VALUES, raised, raised_with, same
from test_rates import BAD_RATES

RULES = ("first", "nearest", "gone")
GOALS = (100, 101, 250, 400)
RATES = (
    (9, 10, 41), (9, 10, 50), (90, 100, 41), (81, 90, 50), (10, 11, 41), (91, 100, 45), (99, 100, 41), (99, 100, 50),
    (98, 99, 41), (92, 99, 42),
)
OTHER_RULES = (
    *ODD_VALUES, "", "First", "nearest ", "fifo", *[word for word in sorted(WORDS) if word not in RULES], ("first",),
    ["first"], (("came", "up"),), (("left", "up"),), (("done", "down"),), Web("road a p q"),
)


class BlownWebs(unittest.TestCase):
    def test_at_most_fourteen_roads(self):
        for rule in RULES:
            self.assertIs(type(blown_web(rule)), Web)
            self.assertLessEqual(len(blown_web(rule)), 14)

    def test_always_the_same_one(self):
        for rule in RULES:
            web = blown_web(rule)
            putter(rule, (9, 10, 41), 100)
            self.assertEqual(blown_web(rule=rule), web)
            same(self, blown_web(rule).text, web.text)

    def test_other_rules(self):
        for value in OTHER_RULES:
            raised_with(self, BadRule, blown_web, value, value)


class Putters(unittest.TestCase):
    def holds(self, rule, rate, goal):
        """Fails unless the row is as it is promised."""
        row, web = putter(rule, rate, goal), blown_web(rule)
        same(self, keeps_rate(web, row, rate), ("kept",))
        self.assertTrue(all([is_way(web, way) and len(way) <= 6 for _, way in row]))
        last = row[-1][0]
        self.assertLess(last, 60 * goal)
        self.assertGreater(played(web, row, rule, last + 1)[2], goal)
        return row

    def test_each_rule_rate_and_goal(self):
        for rule in RULES:
            for rate in RATES:
                for goal in GOALS:
                    with self.subTest(rule=rule, rate=rate, goal=goal):
                        self.holds(rule, rate, goal)

    def test_each_goal_of_many(self):
        for rule in RULES:
            for goal in (*range(100, 150), *range(150, 401, 9)):
                with self.subTest(rule=rule, goal=goal):
                    self.holds(rule, (9, 10, 41), goal)

    def test_drawn_rates_and_goals(self):
        chance = random.Random(8)
        for _ in range(60):
            q = chance.randint(10, 100)
            rate = (chance.randint((9 * q + 9) // 10, q - 1), q, chance.randint(41, 50))
            self.holds(chance.choice(RULES), rate, chance.randint(100, 400))

    def test_beside_a_plain_yard(self):
        for rule in RULES:
            row = self.holds(rule, (9, 10, 41), 100)
            yard = yard_after(blown_web(rule), row, by_rule(rule), row[-1][0] + 1)
            self.assertGreater(yard.most, 100)

    def test_the_same_call_returns_the_same(self):
        for rule in RULES:
            row = putter(rule, (9, 10, 41), 150)
            same(self, putter(rule, (9, 10, 41), 150), row)
            putter(rule, (99, 100, 50), 300)
            same(self, putter(rule=rule, rate=(9, 10, 41), goal=150), row)

    def test_wrong_arguments_in_their_order(self):
        for value in OTHER_RULES:
            raised_with(self, BadRule, putter, value, value, None, None)
        for value in BAD_RATES:
            raised_with(self, BadRate, putter, value, "first", value, None)

    def test_rates_that_are_too_slow(self):
        slow = (
            (1, 2, 50), (8, 9, 50), (89, 100, 50), (88, 98, 50), (9, 10, 40), (99, 100, 40), (1, 2, 1), (9, 11, 41),
            (89, 99, 41), (9, 10, 1),
        )
        for rule in RULES:
            for rate in slow:
                raised_with(self, TooSlow, putter, rate, rule, rate, None)
                raised_with(self, TooSlow, putter, rate, rule, rate, 100)

    def test_goals(self):
        others = (99, 401, -1, 10 ** 39, "", "100", (100,), [100], Web("road a p q"))
        for value in (*ODD_VALUES, *others):
            raised_with(self, BadNumber, putter, value, "gone", (9, 10, 41), value)


if __name__ == "__main__":
    unittest.main()
