"""The bounds: by their definitions, and beside rows played by words, orders and ranks."""

import random
import unittest
from fractions import Fraction
from math import floor

from plainly import (
    PlainYard, all_ways, by_rule, put_of, random_layers, random_rule, random_tree, ring_of, rush, yard_played_out)
from roadqueues.errors import BadNumber, BadRate, HasRing, NotRing, TooFast
from roadqueues.keepers import keeper_bound, layer_bounds, ring_bound, slow_bound
from roadqueues.rates import keeps_rate
from roadqueues.webs import Web
from support import ODD_VALUES, line_of, name_of, raised, raised_with, random_web, same
from test_rates import BAD_RATES

RING = ring_of(3)
LAYERS = Web("road a x y\nroad b y z\nroad c x z")
KNOT = Web("road z b a\nroad a a b\nroad c a b\nroad d b c\nroad b c a")
NO_MOST = (
    *[value for value in ODD_VALUES if type(value) is not int], 0, -1, 13, 10 ** 39, -10 ** 39, "", "1", RING, (1,), [1],
)


def all_rates():
    """Rates slow and fast, with small and great bursts."""
    for q in (2, 3, 7, 10, 99, 100):
        for p in sorted({1, q // 2, q - 1, 2 % q or 1}):
            if 0 < p < q:
                for burst in (1, 2, 3, 41, 50):
                    yield (p, q, burst)


class KeeperBound(unittest.TestCase):
    def test_some_by_hand(self):
        same(self, [keeper_bound((1, 2, 1), most) for most in (1, 2, 3, 4)], [1, 3, 7, 15])
        same(self, [keeper_bound((1, 2, 3), most) for most in (1, 2)], [5, 15])
        same(self, [keeper_bound((9, 10, 1), most) for most in (1, 2, 3)], [1, 11, 111])
        same(self, keeper_bound((99, 100, 1), 12), int("1" + "01" * 11))
        # (1 * 3) // 2 + 1 = 2, (3 * 3) // 2 + 1 = 5, (6 * 3) // 2 + 1 = 10.
        same(self, [keeper_bound((1, 3, 2), most) for most in (1, 2, 3)], [2, 5, 10])
        same(self, keeper_bound((99, 100, 50), 1), 49 * 100 + 1)

    def test_by_its_definition(self):
        for rate in all_rates():
            p, q, burst = rate
            bound = 0
            for most in range(1, 13):
                bound = floor(Fraction((bound + burst - 1) * q, q - p)) + 1
                same(self, keeper_bound(rate, most), bound)

    def test_wrong_arguments(self):
        for value in BAD_RATES:
            raised_with(self, BadRate, keeper_bound, value, value, 0)
        for value in NO_MOST:
            raised_with(self, BadNumber, keeper_bound, value, (1, 2, 1), value)

    def test_by_name(self):
        same(self, [keeper_bound(rate=(1, 2, 1), most=3), slow_bound(rate=(1, 4, 1), most=3)], [7, 6])


class SlowBound(unittest.TestCase):
    def test_some_by_hand(self):
        same(self, [slow_bound((1, 4, 1), 3), slow_bound((1, 4, 2), 1)], [6, 2])
        # (2 * 10 + 3) // (10 - 9) + 1 = 24.
        same(self, [slow_bound((3, 10, 3), 3), slow_bound((1, 100, 50), 12)], [72, 12 * (4901 // 88 + 1)])

    def test_by_its_definition_and_its_border(self):
        for rate in all_rates():
            p, q, burst = rate
            for most in range(1, 13):
                if p * most < q:
                    stay = floor(Fraction((burst - 1) * q + p, q - p * most)) + 1
                    same(self, slow_bound(rate, most), most * stay)
                else:
                    raised(self, TooFast, rate, slow_bound, rate, most)
        raised(self, TooFast, (1, 12, 1), slow_bound, (1, 12, 1), 12)
        same(self, slow_bound((1, 13, 1), 12), 24)
        raised(self, TooFast, (50, 100, 3), slow_bound, (50, 100, 3), 2)
        same(self, slow_bound((49, 100, 1), 2), 2 * (49 // 2 + 1))

    def test_letters_stay_at_each_road_no_longer(self):
        for seed in range(80):
            chance = random.Random(seed)
            web = chance.choice((KNOT, RING, random_web(chance), random_layers(chance)))
            most = chance.randint(1, 4)
            q = chance.choice((most + 1, 2 * most + 1, 10 * most))
            rate = (chance.randint(1, (q - 1) // most), q, chance.choice((1, 2, 4)))
            row = rush(chance, web, rate, 30, most)
            yard = yard_played_out(web, row, by_rule(random_rule(chance, len(row))))
            bound = slow_bound(rate, most)
            for one in yard.all:
                came = (one.beat, *[beat + 1 for beat in one.crossed])
                stays = [beat + 1 - begin for begin, beat in zip(came, one.crossed)]
                self.assertLessEqual(max(stays) * most, bound)
                self.assertLessEqual(one.age(), bound)

    def test_wrong_arguments(self):
        for value in BAD_RATES:
            raised_with(self, BadRate, slow_bound, value, value, 0)
        for value in NO_MOST:
            raised_with(self, BadNumber, slow_bound, value, (1, 2, 1), value)
        raised(self, BadNumber, 13, slow_bound, (99, 100, 1), 13)


class RingBound(unittest.TestCase):
    def test_some_by_hand(self):
        same(self, [ring_bound(ring_of(2), (1, 2, 1)), ring_bound(RING, (1, 2, 1))], [5, 7])
        # 2 + (3 * 3 * 2) // 3 and 4 + (5 * 5 * 3) // 4.
        same(self, [ring_bound(RING, (2, 5, 2)), ring_bound(ring_of(5), (3, 7, 4))], [8, 22])

    def test_by_its_definition(self):
        for rate in all_rates():
            p, q, burst = rate
            for many in (2, 3, 8, 20):
                same(self, ring_bound(ring_of(many), rate), burst + floor(Fraction(many * (1 + burst) * p, q - p)))

    def test_so_many_letters_have_one_road_still_to_cross(self):
        for seed in range(60):
            chance = random.Random(seed)
            web = ring_of(chance.randint(2, 5))
            rate = chance.choice(((1, 2, 1), (2, 3, 1), (1, 2, 2), (3, 4, 2), (1, 5, 3)))
            row = rush(chance, web, rate, 40, 12)
            yard = PlainYard(web, by_rule(random_rule(chance, len(row))))
            bound = ring_bound(web, rate)
            while len(yard.all) < len(row) or yard.waits():
                put_of(yard, row)
                for road, _, _ in web.roads:
                    self.assertLessEqual(len([one for one in yard.all if road in one.way[one.done:]]), bound)
                yard.go_on()

    def test_webs_that_are_no_ring(self):
        webs = (
            KNOT, LAYERS, Web("road a p q"), Web(line_of(3)), Web("road a p q\nroad b q p\nroad c r s\nroad d s r"),
            Web("road a p q\nroad b q p\nroad c q p"), Web("road a p q\nroad b q r\nroad c r p\nroad d p s"),
            Web("road a p q\nroad b q p\nroad c p r\nroad d r p"),
        )
        for web in webs:
            raised_with(self, NotRing, ring_bound, web, web, (1, 2, 1))
            raised_with(self, NotRing, ring_bound, web, web, None)

    def test_wrong_rates(self):
        for value in BAD_RATES:
            raised_with(self, BadRate, ring_bound, value, RING, value)

    def test_by_name(self):
        same(self, ring_bound(web=RING, rate=(1, 2, 1)), 7)
        same(self, layer_bounds(web=Web("road a p q"), rate=(1, 2, 1)), (("a", 1, 2),))


def comes_to(web, one, other):
    """Whether one comes from one road to the other, along any number of roads."""
    begins = {name: begin for name, begin, _ in web.roads}
    places = [end for name, _, end in web.roads if name == one]
    for place in places:
        places.extend([end for _, begin, end in web.roads if begin == place and end not in places])
    return begins[other] in places


def layers_plainly(web, rate):
    """What layer_bounds tells, by its definition."""
    p, q, burst = rate

    def letters(road):
        return burst + sum([letters(name) for name, _, _ in web.roads if name != road and comes_to(web, name, road)])

    return tuple([(road, letters(road), letters(road) * q // (q - p)) for road, _, _ in web.roads])


class LayerBounds(unittest.TestCase):
    def test_some_by_hand(self):
        same(self, layer_bounds(LAYERS, (1, 2, 1)), (("a", 1, 2), ("b", 2, 4), ("c", 1, 2)))
        # Two ways lead from a to d: a is counted once, and b and c with what is ahead of them.
        web = Web("road d s t\nroad b q s\nroad c q s\nroad a p q")
        same(self, layer_bounds(web, (2, 3, 2)), (("d", 2 + 4 + 4 + 2, 36), ("b", 4, 12), ("c", 4, 12), ("a", 2, 6)))

    def test_a_long_line(self):
        told = layer_bounds(Web(line_of(60)), (1, 3, 5))
        same(self, told, tuple([(name_of(k), 5 * 2 ** k, 5 * 2 ** k * 3 // 2) for k in range(60)]))

    def test_roads_side_by_side(self):
        lines = [f"road {name_of(k)} {name_of(k // 2)} {name_of(k // 2 + 1)}" for k in range(60)]
        told = layer_bounds(Web("\n".join(lines)), (1, 2, 1))
        same(self, told, tuple([(name_of(k), 3 ** (k // 2), 2 * 3 ** (k // 2)) for k in range(60)]))

    def test_by_its_definition(self):
        rates = list(all_rates())
        for seed in range(120):
            chance = random.Random(seed)
            web = random_layers(chance, 8) if seed % 3 else random_tree(chance, 8)
            rate = chance.choice(rates)
            same(self, layer_bounds(web, rate), layers_plainly(web, rate))

    def test_so_many_letters_stand_at_each_road_and_so_long(self):
        for seed in range(60):
            chance = random.Random(seed)
            web = random_layers(chance) if seed % 3 else random_tree(chance)
            rate = chance.choice(((1, 2, 1), (2, 3, 1), (1, 2, 2), (9, 10, 1), (1, 5, 3)))
            row = rush(chance, web, rate, 40, 6)
            same(self, keeps_rate(web, row, rate), ("kept",))
            yard = PlainYard(web, by_rule(random_rule(chance, len(row))))
            bounds = layer_bounds(web, rate)
            while len(yard.all) < len(row) or yard.waits():
                put_of(yard, row)
                for (road, numbers), (_, letters, _) in zip(yard.standing(), bounds):
                    self.assertLessEqual(len(numbers), letters, road)
                yard.go_on()
            longest = {road: beats for road, _, beats in bounds}
            for one in yard.all:
                came = (one.beat, *[beat + 1 for beat in one.crossed])
                for road, begin, beat in zip(one.way, came, one.crossed):
                    self.assertLessEqual(beat + 1 - begin, longest[road])

    def test_webs_with_a_ring(self):
        webs = (KNOT, RING, ring_of(2), Web("road a p q\nroad b q p\nroad c q r"), Web("road c z p\nroad a p q\nroad b q p"))
        for web in webs:
            self.assertTrue(all_ways(web, 2))
            raised_with(self, HasRing, layer_bounds, web, web, (1, 2, 1))
            raised_with(self, HasRing, layer_bounds, web, web, None)

    def test_wrong_rates(self):
        for value in BAD_RATES:
            raised_with(self, BadRate, layer_bounds, value, LAYERS, value)


if __name__ == "__main__":
    unittest.main()
