"""Yards: which letter each road carries, and what a yard tells, beside a plain one."""

import random
import unittest

from plainly import KEYS, WORDS, PlainYard, all_ways, by_rule, random_order
from roadqueues.errors import BadRule, BadWay
from roadqueues.webs import Web
from roadqueues.yards import Yard
from support import ODD_VALUES, line_of, name_of, raised, raised_with, random_web, same

WEB = Web("road e u v\nroad f v w\nroad g v w\nroad h w u")
# Several roads between two places, and a place to which ways come again.
KNOT = Web("road z b a\nroad a a b\nroad c a b\nroad d b c\nroad b c a")

NO_RULES = (
    *ODD_VALUES, "", "Eldest", "eldest ", "oldest", "beat", "up", "rank", WEB, ("eldest",), ["eldest"],
    ("beat", "up"), (("beat",),), (("beat", "up", "up"),), (("beat", "high"),), (("age", "up"),), (("rank", "up"),),
    (("up", "beat"),), (("beat", True),), (("beat", 1),), (("beat", None),), ((None, "up"),), ((("beat",), "up"),),
    [("beat", "up")], (["beat", "up"],), (("beat", ["up"]),), ((["beat"], "up"),), ({"beat": "up"},), {"beat": "up"},
    (("beat", "up"), ("beat", "up")), (("beat", "up"), ("left", "up"), ("beat", "down")),
    (("beat", "up"), "left"), (("beat", "up"), ("left", "up"), ()), (("beat", "up"), None), (("beat", "up"), 1),
    tuple([(key, "up") for key in KEYS]) + (("beat", "down"),), tuple([(key, "up") for key in KEYS]) * 2,
    (0,), (0, 1), (-1, 5), (True,), ("b", "u"), (("Beat", "up"),), (("beat", "Up"),), (("beat", ""),),
)


class Words(unittest.TestCase):
    def order_at(self, road, rule, web, *puttings):
        """The letters in the order in which a road carries them."""
        yard = Yard(web, rule)
        told = []
        for beat in range(40):
            for one, way in puttings:
                if one == beat:
                    yard.put(way)
            told.extend([number for name, number in yard.go_on() if name == road])
        return told

    def test_how_many_roads_are_left(self):
        puttings = ((0, ("e", "f")), (0, ("e",)), (0, ("e", "f", "h")), (0, ("e", "g")))
        self.assertEqual(self.order_at("e", "farthest", WEB, *puttings), [2, 0, 3, 1])
        self.assertEqual(self.order_at("e", "nearest", WEB, *puttings), [1, 0, 3, 2])
        for rule in ("eldest", "youngest", "first", "last", "begun", "gone"):
            self.assertEqual(self.order_at("e", rule, WEB, *puttings), [0, 1, 2, 3])

    def test_when_they_were_put_in_and_since_when_they_stand_here(self):
        # Letter 0 comes to f at beat 2, letter 1 at beat 1 and letter 2 at beat 2, and letter 3 is put in there.
        puttings = ((0, ("h", "e", "f")), (0, ("e", "f")), (1, ("f",)), (1, ("f",)), (2, ("f",)))
        self.assertEqual(self.order_at("f", "eldest", WEB, *puttings), [1, 0, 2, 3, 4])
        self.assertEqual(self.order_at("f", "youngest", WEB, *puttings), [2, 4, 3, 0, 1])
        self.assertEqual(self.order_at("f", "first", WEB, *puttings), [1, 2, 3, 0, 4])
        self.assertEqual(self.order_at("f", "last", WEB, *puttings), [1, 0, 4, 2, 3])

    def test_how_many_roads_have_carried_them(self):
        puttings = ((0, ("h", "e", "f")), (0, ("e", "f")), (1, ("f",)), (1, ("f",)), (2, ("f",)))
        self.assertEqual(self.order_at("f", "begun", WEB, *puttings), [2, 3, 4, 1, 0])
        self.assertEqual(self.order_at("f", "gone", WEB, *puttings), [1, 0, 2, 3, 4])

    def test_words_are_orders(self):
        orders = {
            "eldest": ("beat", "up"), "youngest": ("beat", "down"), "farthest": ("left", "down"),
            "nearest": ("left", "up"), "first": ("came", "up"), "last": ("came", "down"),
            "begun": ("done", "up"), "gone": ("done", "down"),
        }
        for seed in range(40):
            chance = random.Random(seed)
            web = random_web(chance)
            ways = all_ways(web, 4)
            for word, part in orders.items():
                one, other = Yard(web, word), Yard(web, (part,))
                for _ in range(12):
                    for way in chance.choices(ways, k=chance.randint(0, 3)):
                        same(self, one.put(way), other.put(way))
                    same(self, one.go_on(), other.go_on())

    def test_length_is_not_what_is_left(self):
        puttings = ((0, ("e", "f", "h")), (1, ("f", "h")), (1, ("f",)))
        self.assertEqual(self.order_at("f", (("length", "down"),), WEB, *puttings), [0, 1, 2])
        self.assertEqual(self.order_at("f", (("length", "up"),), WEB, *puttings), [2, 1, 0])
        self.assertEqual(self.order_at("f", (("left", "down"), ("number", "down")), WEB, *puttings), [1, 0, 2])

    def test_further_keys_count_where_those_ahead_are_equal(self):
        puttings = ((0, ("e", "f")), (0, ("e",)), (0, ("e", "g")), (1, ("e", "f", "h")), (1, ("e",)))
        self.assertEqual(self.order_at("e", (("number", "down"),), WEB, *puttings), [2, 4, 3, 1, 0])
        self.assertEqual(self.order_at("e", (("left", "up"), ("number", "down")), WEB, *puttings), [1, 4, 2, 0, 3])
        self.assertEqual(self.order_at("e", (("beat", "up"), ("left", "down")), WEB, *puttings), [0, 2, 1, 3, 4])
        self.assertEqual(
            self.order_at("e", (("left", "down"), ("beat", "down"), ("number", "down")), WEB, *puttings),
            [2, 3, 0, 4, 1])


class Yards(unittest.TestCase):
    def alike(self, yard, plain):
        same(self, yard.beat, plain.beat)
        same(self, yard.letters, plain.letters())
        same(self, yard.standing, plain.standing())
        same(self, yard.homes, tuple(plain.homes))

    def test_a_new_yard(self):
        for rule in ("eldest", (("left", "up"), ("number", "down"))):
            yard = Yard(KNOT, rule)
            self.assertIs(yard.web, KNOT)
            same(self, [yard.rule, yard.beat, yard.letters, yard.homes], [rule, 0, (), ()])
            same(self, yard.standing, (("z", ()), ("a", ()), ("c", ()), ("d", ()), ("b", ())))

    def test_an_empty_yard_goes_on(self):
        yard = Yard(KNOT, "last")
        same(self, [yard.go_on(), yard.go_on(), yard.beat, yard.homes], [(), (), 2, ()])

    def test_arguments_may_be_passed_by_name(self):
        yard = Yard(web=WEB, rule="first")
        same(self, yard.put(way=("e", "f")), 0)
        same(self, yard.letters, ((0, ("e", "f")),))

    def test_letters_put_in_for_the_next_beat_stand_already(self):
        yard = Yard(WEB, "eldest")
        yard.put(("e", "f"))
        same(self, yard.standing[0], ("e", (0,)))
        yard.go_on()
        yard.put(("e",))
        yard.put(("f",))
        yard.put(("f",))
        same(self, yard.standing, (("e", (1,)), ("f", (0, 2, 3)), ("g", ()), ("h", ())))
        same(self, yard.letters, ((0, ("e", "f")), (1, ("e",)), (1, ("f",)), (1, ("f",))))

    def test_what_is_carried_at_a_beat_is_carried_once(self):
        # The roads stand in the text both in the sequence of the ways and against it.
        for text in ("road a p q\nroad b q r\nroad c r p", "road c r p\nroad b q r\nroad a p q"):
            yard = Yard(Web(text), "eldest")
            yard.put(("a", "b", "c"))
            same(self, [yard.go_on() for _ in range(4)], [(("a", 0),), (("b", 0),), (("c", 0),), ()])
            same(self, yard.homes, ((0, 3),))

    def test_what_is_carried_stands_in_the_sequence_of_the_text(self):
        yard = Yard(KNOT, "eldest")
        for road in ("b", "a", "z", "d", "c"):
            yard.put((road,))
        same(self, yard.go_on(), (("z", 2), ("a", 1), ("c", 4), ("d", 3), ("b", 0)))

    def test_homes_by_beats_then_by_numbers(self):
        yard = Yard(KNOT, "eldest")
        yard.put(("d", "b"))
        for road in ("b", "c", "a", "z"):
            yard.put((road,))
        yard.go_on()
        same(self, yard.homes, ((1, 1), (2, 1), (3, 1), (4, 1)))
        yard.put(("a",))
        yard.go_on()
        same(self, yard.homes, ((1, 1), (2, 1), (3, 1), (4, 1), (0, 2), (5, 1)))

    def compare(self, seed, web, rule):
        """Goes on with a yard and a plain one, letters being put in ahead of each beat."""
        chance = random.Random(seed)
        ways = all_ways(web, 5)
        yard, plain = Yard(web, rule), PlainYard(web, by_rule(rule))
        told = []
        for beat in range(14):
            for way in chance.choices(ways, k=chance.choice((0, 1, 1, 3, 4)) if beat < 9 else 0):
                same(self, yard.put(way), plain.put(way))
                self.alike(yard, plain)
            now = (yard.letters, yard.standing, yard.homes, yard.go_on())
            told.append((now, repr(now)))
            same(self, now[-1], plain.go_on())
            self.alike(yard, plain)
        while plain.waits():
            same(self, yard.go_on(), plain.go_on())
            self.alike(yard, plain)
        # Tuples told before do not change.
        for now, text in told:
            self.assertEqual(repr(now), text)
        self.assertEqual(len(yard.homes), len(yard.letters))

    def test_all_words_beside_a_plain_yard(self):
        self.assertEqual(len(WORDS), 8)
        for word in WORDS:
            for seed in range(8):
                with self.subTest(word=word, seed=seed):
                    self.compare(seed, KNOT if seed % 4 == 0 else random_web(random.Random(seed), 8), word)

    def test_orders_beside_a_plain_yard(self):
        for key in KEYS:
            for turn in ("up", "down"):
                self.compare(key, KNOT, ((key, turn),))
        lengths = set()
        for seed in range(80):
            chance = random.Random(seed)
            order = random_order(chance)
            lengths.add(len(order))
            with self.subTest(order=order, seed=seed):
                self.compare(seed, KNOT if seed % 4 == 0 else random_web(chance, 8), order)
        self.assertEqual(lengths, {1, 2, 3, 4, 5, 6})

    def test_copies_go_on_by_themselves(self):
        for seed in range(30):
            chance = random.Random(seed)
            web = random_web(chance)
            rule = chance.choice((chance.choice(sorted(WORDS)), random_order(chance)))
            ways = all_ways(web, 4)
            yards = [(Yard(web, rule), PlainYard(web, by_rule(rule)))]
            deeds = [[]]
            for _ in range(30):
                place = chance.randrange(len(yards))
                yard, plain = yards[place]
                if chance.random() < 0.15:
                    # A plain yard that stands like the copy is made by doing all deeds again.
                    other = PlainYard(web, by_rule(rule))
                    for way in deeds[place]:
                        other.go_on() if way is None else other.put(way)
                    yards.append((yard.copy(), other))
                    deeds.append(list(deeds[place]))
                elif chance.random() < 0.5:
                    way = chance.choice(ways)
                    deeds[place].append(way)
                    same(self, yard.put(way), plain.put(way))
                else:
                    deeds[place].append(None)
                    same(self, yard.go_on(), plain.go_on())
                for one, its_plain in yards:
                    self.alike(one, its_plain)
                    same(self, one.rule, rule)
                    self.assertEqual(one.web, web)

    def test_a_copy_is_a_yard(self):
        yard = Yard(WEB, "gone")
        other = yard.copy()
        self.assertIs(type(other), Yard)
        self.assertIsNot(other, yard)
        self.assertIs(type(other.copy()), Yard)

    def test_many_letters_and_long_ways(self):
        web = Web(line_of(60))
        yard = Yard(web, "eldest")
        for _ in range(300):
            yard.put(tuple([name_of(k) for k in range(12)]))
        for _ in range(311):
            yard.go_on()
        same(self, yard.homes, tuple([(number, number + 12) for number in range(300)]))
        same(self, [len(yard.standing), yard.beat], [60, 311])


class WrongArguments(unittest.TestCase):
    def test_rules_that_are_none(self):
        for value in NO_RULES:
            with self.subTest(value=value):
                raised_with(self, BadRule, Yard, value, WEB, value)

    def test_all_keys_and_turns_are_let(self):
        for key in ("beat", "came", "left", "done", "length", "number"):
            for turn in ("up", "down"):
                same(self, Yard(WEB, ((key, turn),)).rule, ((key, turn),))
        all_six = tuple([(key, "down") for key in KEYS])
        same(self, Yard(WEB, all_six).rule, all_six)

    def test_a_put_that_raises_changes_nothing(self):
        yard = Yard(WEB, "eldest")
        yard.put(("e", "f"))
        yard.put(("e",))
        yard.go_on()
        before = (yard.beat, yard.letters, yard.standing, yard.homes)
        others = ("e", "", WEB, ("f", "e"), ("e", "e"), ("e", "x"), ("e", 1), ["e"], (("e",),), ("e", ["f"]), ("e", None))
        for way in (*ODD_VALUES, *others):
            with self.subTest(way=way):
                raised_with(self, BadWay, yard.put, way, way)
                same(self, (yard.beat, yard.letters, yard.standing, yard.homes), before)
        same(self, [yard.put(("g",)), yard.go_on()], [2, (("e", 1), ("f", 0), ("g", 2))])

    def test_a_way_that_comes_to_a_place_again(self):
        yard = Yard(KNOT, "eldest")
        way = ("a", "z", "c", "d", "b")
        same(self, yard.put(way), 0)
        same(self, [yard.go_on() for _ in way], [((road, 0),) for road in way])
        raised(self, BadWay, ("a", "z", "a"), yard.put, ("a", "z", "a"))


if __name__ == "__main__":
    unittest.main()
