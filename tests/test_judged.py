"""Rules judged: beside a plain yard, in which rows are cut at every beat."""

import random
import unittest

from plainly import KEYS, WORDS, PlainYard, by_rule, put_of, random_order, yard_after, yard_played_out
from roadqueues.errors import BadNumber, BadPuttings, BadRate, BadRule, TooSlow
from roadqueues.judged import blown_by, broken_at, earlier_heeded, later_heeded, parted_at
from roadqueues.putters import blown_web, putter
from roadqueues.webs import Web
from roadqueues.yards import all_ages, played
from support import ODD_VALUES, line_of, name_of, raised, raised_with, random_row, random_web, same
from test_yards import NO_RULES

WEB = Web("road a u v\nroad b v w")
ROW = ((0, ("a", "b")), (1, ("b",)), (1, ("a", "b")), (2, ("b",)))


def crossed_alone(web, row, rule, kept):
    """For each of these numbers of letters the beats at which it is carried, if all others are left out."""
    yard = yard_played_out(web, tuple([row[number] for number in kept]), by_rule(rule))
    return dict(zip(kept, yard.crossings()))


def later_plainly(web, row, rule):
    """What later_heeded tells, by cutting the row behind each beat."""
    whole = crossed_alone(web, row, rule, range(len(row)))
    for t in range(row[-1][0] + 2 if row else 0):
        alone = crossed_alone(web, row, rule, [number for number, (beat, _) in enumerate(row) if beat <= t])
        changed = [number for number in alone if alone[number] != whole[number]]
        if changed:
            return (t, min(changed))
    return None


def earlier_plainly(web, row, rule):
    """What earlier_heeded tells, by cutting the row ahead of each beat."""
    whole = crossed_alone(web, row, rule, range(len(row)))
    for t in range(row[-1][0] + 1 if row else 0, -1, -1):
        alone = crossed_alone(web, row, rule, [number for number, (beat, _) in enumerate(row) if beat >= t])
        changed = [number for number in alone if alone[number] != whole[number]]
        if changed:
            return (t, min(changed))
    return None


def parted_plainly(web, row, one, other):
    """What parted_at tells, of two plain yards that go on side by side."""
    mine, its = PlainYard(web, by_rule(one)), PlainYard(web, by_rule(other))
    while len(mine.all) < len(row) or mine.waits() or its.waits():
        beat = mine.beat
        for yard in (mine, its):
            put_of(yard, row)
        by_mine, by_its = dict(mine.go_on()), dict(its.go_on())
        for road, _, _ in web.roads:
            if by_mine.get(road) != by_its.get(road):
                return (beat, road, by_mine[road], by_its[road])
    return None


def cases(many, most=9):
    """Some webs, each with a row, of which many letters meet, and a rule."""
    for seed in range(many):
        chance = random.Random(seed)
        web = random_web(chance, 5)
        row = random_row(chance, web, chance.randint(0, most), chance.choice((0, 2, 5, 9)))
        yield chance, web, row, chance.choice((chance.choice(sorted(WORDS)), random_order(chance)))


class Broken(unittest.TestCase):
    def test_beside_all_ages(self):
        told = {"kept": 0, "broken": 0}
        for chance, web, row, rule in cases(400):
            ages = all_ages(web, row, rule)
            for bound in range(1, max(ages, default=1) + 2):
                old = [number for number, age in enumerate(ages) if age > bound]
                right = ("broken", old[0], row[old[0]][0] + bound - 1) if old else ("kept",)
                same(self, broken_at(web, row, rule, bound), right)
                told[right[0]] += 1
        self.assertGreater(min(told.values()), 300)

    def test_bounds_at_just_the_ages(self):
        # By "youngest" b carries the letters 1, 3, 2, 0 at the beats 1 to 4.
        same(self, all_ages(WEB, ROW, "youngest"), (5, 1, 3, 1))
        told = [broken_at(WEB, ROW, "youngest", bound) for bound in (1, 2, 3, 4, 5, 6, 1000000)]
        same(self, told, [("broken", 0, 0), ("broken", 0, 1), ("broken", 0, 2), ("broken", 0, 3)] + [("kept",)] * 3)
        same(self, all_ages(WEB, ROW, "eldest"), (2, 2, 3, 3))
        same(self, broken_at(WEB, ROW, "eldest", 2), ("broken", 2, 2))

    def test_the_beat_is_that_of_the_letter(self):
        # The letters get ages of 2, 3 and 4, in their sequence or against it.
        row = ((7, ("a", "b")), (7, ("a", "b")), (7, ("a", "b")))
        by_number = (("number", "down"),)
        same(self, [broken_at(WEB, row, "last", bound) for bound in (2, 3, 4)], [("broken", 1, 8), ("broken", 2, 9), ("kept",)])
        same(self, [broken_at(WEB, row, by_number, bound) for bound in (1, 2, 3)],
             [("broken", 0, 7), ("broken", 0, 8), ("broken", 0, 9)])

    def test_no_letters(self):
        same(self, broken_at(WEB, (), "first", 1), ("kept",))


class Parted(unittest.TestCase):
    def test_beside_plain_yards(self):
        found = 0
        for chance, web, row, one in cases(500):
            other = chance.choice((chance.choice(sorted(WORDS)), random_order(chance)))
            told = parted_at(web, row, one, other)
            same(self, told, parted_plainly(web, row, one, other))
            back = parted_at(web, row, other, one)
            same(self, back, told if told is None else (told[0], told[1], told[3], told[2]))
            same(self, parted_at(web, row, one, one), None)
            found += told is not None
        self.assertGreater(found, 100)

    def test_the_first_road_of_the_text(self):
        row = ((3, ("a",)), (3, ("a", "b")), (3, ("b",)), (3, ("b",)))
        same(self, parted_at(WEB, row, "nearest", "farthest"), (3, "a", 0, 1))
        by_number = (("number", "down"),)
        same(self, parted_at(WEB, row, "nearest", by_number), (3, "a", 0, 1))
        same(self, parted_at(Web("road b v w\nroad a u v"), row, "nearest", by_number), (3, "b", 2, 3))
        same(self, parted_at(WEB, (), "nearest", "farthest"), None)

    def test_words_that_are_orders(self):
        for chance, web, row, _ in cases(60):
            for word, order in (("eldest", (("beat", "up"),)), ("gone", (("done", "down"),)), ("last", (("came", "down"),)),
                                ("farthest", (("left", "down"), ("number", "up")))):
                same(self, parted_at(web, row, word, order), None)


class Heeded(unittest.TestCase):
    def test_later_beside_rows_that_are_cut(self):
        found = 0
        for _, web, row, rule in cases(700):
            told = later_heeded(web, row, rule)
            same(self, told, later_plainly(web, row, rule))
            found += told is not None
        self.assertGreater(found, 80)

    def test_earlier_beside_rows_that_are_cut(self):
        found = 0
        for _, web, row, rule in cases(700):
            told = earlier_heeded(web, row, rule)
            same(self, told, earlier_plainly(web, row, rule))
            found += told is not None
        self.assertGreater(found, 100)

    def test_all_words_and_all_single_keys(self):
        rules = [*WORDS, *[((key, turn),) for key in KEYS for turn in ("up", "down")]]
        for place, rule in enumerate(rules):
            for _, web, row, _ in list(cases(40 + place, 14))[place:]:
                same(self, later_heeded(web, row, rule), later_plainly(web, row, rule))
                same(self, earlier_heeded(web, row, rule), earlier_plainly(web, row, rule))

    def test_longer_rows(self):
        for seed in range(25):
            chance = random.Random(seed)
            web = random_web(chance, 4)
            row = random_row(chance, web, 30, 18)
            rule = chance.choice((chance.choice(sorted(WORDS)), random_order(chance)))
            same(self, later_heeded(web, row, rule), later_plainly(web, row, rule))
            same(self, earlier_heeded(web, row, rule), earlier_plainly(web, row, rule))

    def test_letters_are_numbered_anew(self):
        # By numbers from the greatest on, letters keep their sequence when those ahead are left out.
        row = ((0, ("a",)), (5, ("a",)), (5, ("a",)))
        same(self, earlier_heeded(WEB, row, (("number", "down"),)), None)
        same(self, earlier_heeded(WEB, ((4, ("a",)), (4, ("a",)), (5, ("a",))), (("number", "up"),)), (5, 2))
        same(self, later_heeded(WEB, ((4, ("a",)), (4, ("a",)), (5, ("a",))), (("number", "down"),)), (4, 0))

    def test_letters_of_one_beat_are_left_out_together(self):
        row = ((3, ("a",)), (3, ("a",)), (3, ("a",)))
        for rule in WORDS:
            same(self, [later_heeded(WEB, row, rule), earlier_heeded(WEB, row, rule)], [None, None])

    def test_orders_for_which_it_is_always_none(self):
        heed_later, heed_earlier = 0, 0
        for chance, web, row, _ in cases(300, 14):
            rest = tuple([part for part in random_order(chance) if part[0] not in ("beat", "number")])
            elder = (("beat", "up"), ("number", "up"), *rest)
            younger = (("beat", "down"), ("number", "up"), *rest)
            for rule in ("eldest", elder):
                same(self, later_heeded(web, row, rule), None)
                heed_earlier += earlier_heeded(web, row, rule) is not None
            for rule in ("youngest", younger):
                same(self, earlier_heeded(web, row, rule), None)
                heed_later += later_heeded(web, row, rule) is not None
        self.assertGreater(min(heed_later, heed_earlier), 100)

    def test_no_letters(self):
        for rule in (*WORDS, (("done", "up"),)):
            same(self, [later_heeded(WEB, (), rule), earlier_heeded(WEB, (), rule)], [None, None])

    def test_great_rows(self):
        web = Web(line_of(12))
        long = tuple([name_of(k) for k in range(12)])
        row = tuple([(k, long) for k in range(2000)])
        for rule in WORDS:
            same(self, [later_heeded(web, row, rule), earlier_heeded(web, row, rule)], [None, None])
        crowd = tuple([(k // 2, long[:1]) for k in range(6000)])
        same(self, later_heeded(web, crowd, "eldest"), None)
        same(self, earlier_heeded(web, crowd, "youngest"), None)
        same(self, later_heeded(web, crowd, "last"), (0, 1))
        same(self, earlier_heeded(web, crowd, "first"), (2999, 5998))


class Blown(unittest.TestCase):
    def blown_plainly(self, rule, rate, goal):
        told = []
        for word in ("first", "nearest", "gone"):
            row = putter(word, rate, goal)
            told.append((word, yard_after(blown_web(word), row, by_rule(rule), row[-1][0] + 1).most))
        return tuple(told)

    def test_beside_plain_yards(self):
        for rule in ("eldest", "gone", (("left", "up"), ("number", "down"))):
            same(self, blown_by(rule, (9, 10, 41), 100), self.blown_plainly(rule, (9, 10, 41), 100))

    def test_each_own_word_is_above_the_goal(self):
        for rate in ((9, 10, 41), (99, 100, 50), (10, 11, 45)):
            for goal in (100, 101, 173, 250, 400):
                for place, word in enumerate(("first", "nearest", "gone")):
                    told = blown_by(word, rate, goal)
                    self.assertEqual([name for name, _ in told], ["first", "nearest", "gone"])
                    self.assertGreater(told[place][1], goal)
        same(self, blown_by((("came", "up"),), (9, 10, 41), 120), blown_by("first", (9, 10, 41), 120))

    def test_beside_played(self):
        for rule in (*WORDS, (("length", "down"), ("beat", "down"))):
            for word, most in blown_by(rule, (9, 10, 41), 130):
                row = putter(word, (9, 10, 41), 130)
                same(self, most, played(blown_web(word), row, rule, row[-1][0] + 1)[2])


class WrongArguments(unittest.TestCase):
    def test_rows_that_are_none(self):
        for row, told in ((None, None), ([], None), ("", None), (ROW[::-1], 1), ((*ROW, (1, ("b",))), 4), (((0, ("b", "a")),), 0),
                          (((True, ("a",)),), 0), ((ROW,), 0), (((0, ["a"]),), 0), (((0, ("a",)),) * 20001, None)):
            raised(self, BadPuttings, told, broken_at, WEB, row, None, None)
            raised(self, BadPuttings, told, parted_at, WEB, row, None, None)
            raised(self, BadPuttings, told, later_heeded, WEB, row, None)
            raised(self, BadPuttings, told, earlier_heeded, WEB, row, None)

    def test_rules_that_are_none(self):
        # Ranks are none here, also if there are as many as letters.
        for rule in (*NO_RULES, (1, 2, 3, 4), (0, 0, 0, 0)):
            with self.subTest(rule=rule):
                raised_with(self, BadRule, broken_at, rule, WEB, ROW, rule, None)
                raised_with(self, BadRule, parted_at, rule, WEB, ROW, rule, [])
                raised_with(self, BadRule, parted_at, rule, WEB, ROW, "eldest", rule)
                raised_with(self, BadRule, later_heeded, rule, WEB, ROW, rule)
                raised_with(self, BadRule, earlier_heeded, rule, WEB, ROW, rule)
                raised_with(self, BadRule, blown_by, rule, rule, None, None)
        for function in (later_heeded, earlier_heeded):
            raised(self, BadRule, (), function, WEB, (), ())

    def test_bounds_that_are_none(self):
        for bound in (*ODD_VALUES, "", "1", WEB, 0, -1, 1000001, (1,), 1.0):
            if not (type(bound) is int and 1 <= bound <= 1000000):
                raised_with(self, BadNumber, broken_at, bound, WEB, ROW, "eldest", bound)
                raised_with(self, BadNumber, broken_at, bound, WEB, (), "eldest", bound)
        same(self, [broken_at(WEB, ROW, "eldest", 1), broken_at(WEB, ROW, "eldest", 1000000)], [("broken", 0, 0), ("kept",)])

    def test_rates_and_goals_that_are_none(self):
        for rate in (*ODD_VALUES, (9, 10), [9, 10, 41], (10, 10, 41), (9, 10, 51), (9, True, 41)):
            raised_with(self, BadRate, blown_by, rate, "eldest", rate, None)
        for rate in ((8, 10, 41), (9, 10, 40), (1, 2, 1), (89, 99, 50)):
            raised(self, TooSlow, rate, blown_by, "eldest", rate, None)
        for goal in (*ODD_VALUES, "100", 99, 401, True, 100.0):
            raised_with(self, BadNumber, blown_by, goal, "eldest", (9, 10, 41), goal)


if __name__ == "__main__":
    unittest.main()
