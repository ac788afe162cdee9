"""Webs, ways and shapes."""

import itertools
import random
import unittest

from roadqueues.errors import BadNumber, BadPlace, BadRoad, BadWeb, TooMany
from roadqueues.webs import Web, is_way, road_ends, roads_from, roads_to, ways_from, web_shape
from support import ODD_VALUES, Stranger, line_of, name_of, plain, raised, raised_with, random_web, same

SQUARE = "road e u v\nroad f v w\nroad g v w\nroad h w u"


class Texts(unittest.TestCase):
    def bad(self, number, text):
        raised(self, BadWeb, number, Web, text)

    def test_one_line(self):
        web = Web("road a p q")
        same(self, [web.text, web.roads, web.places], ["road a p q", (("a", "p", "q"),), ("p", "q")])
        same(self, [len(web), "a" in web, "p" in web, "q" in web], [1, True, False, False])

    def test_the_text_may_be_passed_by_name(self):
        self.assertEqual(Web(text="road a p q").text, "road a p q")

    def test_roads_stand_in_the_order_of_the_text_and_places_ascend(self):
        web = Web("road z m b\nroad a b a\nroad k zz m")
        same(self, web.roads, (("z", "m", "b"), ("a", "b", "a"), ("k", "zz", "m")))
        same(self, web.places, ("a", "b", "m", "zz"))

    def test_sixty_lines_and_the_sixty_first(self):
        web = Web(line_of(60))
        same(self, [len(web), len(web.roads), len(web.places)], [60, 60, 61])
        self.bad(61, line_of(61))
        self.bad(61, line_of(60) + "\nno road")
        self.bad(61, line_of(60) + "\n")
        self.bad(61, line_of(60) + "\nroad aaa p q\nno road")
        self.bad(61, line_of(200))
        self.bad(60, line_of(59) + "\nroad\n\n")

    def test_names_of_one_letter_and_of_eight(self):
        web = Web("road abcdefgh a zyxwvuts")
        same(self, web.roads, (("abcdefgh", "a", "zyxwvuts"),))

    def test_what_is_no_string(self):
        for value in ODD_VALUES:
            with self.subTest(value=value):
                self.bad(0, value)
        self.bad(0, Web("road a p q"))
        self.bad(0, ("road a p q",))

    def test_empty_lines(self):
        self.bad(1, "")
        self.bad(1, "\n")
        self.bad(1, "\nroad a p q")
        self.bad(2, "road a p q\n")
        self.bad(2, "road a p q\n\nroad b p q")

    def test_lines_that_are_none(self):
        lines = (
            "road  a p q", "road a  p q", "road a p  q", "road a p q ", " road a p q", " ",
            "road a p", "road a", "road", "road a p q r", "a p q", "Road a p q", "roads a p q", "raod a p q",
            "road a p\tq", "road a,p q", "note a p q",
        )
        for line in lines:
            with self.subTest(line=line):
                self.bad(1, line)
                self.bad(2, "road z y x\n" + line)
                self.bad(3, "road z y x\nroad y z x\n" + line + "\nroad x x x")

    def test_names_that_are_none(self):
        for word in ("abcdefghi", "A", "aB", "Ab", "a1", "1", "7", "a_b", "_", "a-b", "-", "", "a.", "{", "`", "a'"):
            for line in (f"road {word} p q", f"road a {word} q", f"road a p {word}"):
                with self.subTest(line=line):
                    self.bad(1, line)
                    self.bad(2, "road z y x\n" + line)

    def test_a_name_of_a_road_twice(self):
        self.bad(2, "road a p q\nroad a p q")
        self.bad(3, "road a p q\nroad b p q\nroad a x y")
        self.bad(3, "road a p q\nroad b p q\nroad a x y\nroad")

    def test_a_road_to_where_it_begins(self):
        self.bad(1, "road a p p")
        self.bad(2, "road a p q\nroad b q q")

    def test_several_roads_between_two_places(self):
        web = Web("road a p q\nroad b p q\nroad c q p\nroad d p q")
        same(self, [len(web), web.places, roads_from(web, "p")], [4, ("p", "q"), ("a", "b", "d")])

    def test_a_road_that_has_the_name_of_a_place(self):
        web = Web("road p p q\nroad q p q")
        same(self, [web.roads, web.places], [(("p", "p", "q"), ("q", "p", "q")), ("p", "q")])
        same(self, ["p" in web, "q" in web, road_ends(web, "q")], [True, True, ("p", "q")])

    def test_the_first_line_that_cannot_stand_counts(self):
        for behind in ("", "road", "road a p q", "road b p p", "ROAD", " "):
            self.bad(2, "road a p q\nroad b p\n" + behind)
            self.bad(2, "road a p q\nroad a q p\n" + behind)
            self.bad(1, "road a p p\n" + behind)

    def test_long_texts(self):
        self.bad(1, "\n" * 200000)
        self.bad(1, "a" * 200000)
        self.bad(1, "road " + "a" * 199990 + " p q")
        self.bad(1, " " * 200000)


class Operators(unittest.TestCase):
    def test_in_takes_any_value(self):
        web = Web(SQUARE)
        for value in ODD_VALUES:
            with self.subTest(value=value):
                self.assertIs(value in web, False)
        for value in ("", "u", "E", "ef", "e ", "road", ("e",), ["e"], {"e": 1}, web, ("e", "u", "v")):
            with self.subTest(value=value):
                self.assertIs(value in web, False)
                self.assertIs(value not in web, True)
        for road in "efgh":
            self.assertIs(road in web, True)

    def test_webs_with_equal_texts_are_equal(self):
        one, other = Web(SQUARE), Web("\n".join(SQUARE.split("\n")))
        self.assertIs(one == other, True)
        self.assertIs(one != other, False)
        self.assertIs(one == one, True)

    def test_webs_with_unlike_texts_are_not(self):
        one, other = Web("road a p q\nroad b q r"), Web("road b q r\nroad a p q")
        self.assertIs(one == other, False)
        self.assertIs(one != other, True)

    def test_a_web_equals_nothing_else(self):
        web = Web(SQUARE)
        for value in (*ODD_VALUES, SQUARE, web.roads, web.places, 4, "", [web], (web,)):
            with self.subTest(value=value):
                self.assertIs(web == value, False)
                self.assertIs(web != value, True)
                self.assertIs(value == web, False)
                self.assertIs(value != web, True)

    def test_a_thing_with_the_same_attributes_is_no_web(self):
        web, thing = Web(SQUARE), Stranger()
        thing.text, thing.roads, thing.places = web.text, web.roads, web.places
        self.assertIs(web == thing, False)


class Ways(unittest.TestCase):
    def setUp(self):
        self.web = Web(SQUARE)

    def test_ways(self):
        for value in (("e",), ("h",), ("e", "f"), ("e", "g", "h"), ("h", "e", "f"), ("f", "h", "e", "g"), ("g", "h", "e", "f")):
            with self.subTest(value=value):
                self.assertIs(is_way(self.web, value), True)

    def test_a_way_may_come_to_a_place_several_times(self):
        web = Web("road a p q\nroad b q p\nroad c p q\nroad d q p\nroad e p r")
        self.assertIs(is_way(web, ("a", "b", "c", "d", "e")), True)
        self.assertIs(is_way(web, ("a", "b", "a", "d", "e")), False)

    def test_roads_that_do_not_meet(self):
        for value in (("f", "g"), ("f", "e"), ("e", "h"), ("e", "f", "e"), ("e", "f", "g"), ("h", "f"), ("h", "g", "e")):
            with self.subTest(value=value):
                self.assertIs(is_way(self.web, value), False)

    def test_a_road_twice(self):
        self.assertIs(is_way(self.web, ("e", "e")), False)
        self.assertIs(is_way(self.web, ("e", "f", "h", "e")), False)

    def test_values_of_all_kinds(self):
        web = self.web
        values = (
            *ODD_VALUES, "e", "ef", "", ["e"], ["e", "f"], ("u",), ("e", "v"), ("e", "F"), ("",), ("e", ""),
            (("e",),), (("e", "f"),), ("e", ("f",)), (["e"],), ("e", None), (None,), (True,), ("e", 1),
            {"e": "f"}, ({"e": 1},), web, (web,), ("e", web), web.roads, web.roads[0], ("efgh",), ("e f",),
        )
        for value in values:
            with self.subTest(value=value):
                self.assertIs(is_way(web, value), False)

    def test_twelve_roads_and_thirteen(self):
        web = Web(line_of(60))
        names = tuple([name_of(k) for k in range(60)])
        self.assertIs(is_way(web, names[:12]), True)
        self.assertIs(is_way(web, names[48:]), True)
        self.assertIs(is_way(web, names[:13]), False)
        self.assertIs(is_way(web, names), False)
        self.assertIs(is_way(web, list(names[:12])), False)
        self.assertIs(is_way(web, names[:5] + names[6:9]), False)

    def test_great_values(self):
        self.assertIs(is_way(self.web, ("e",) * 200000), False)
        deep = ("e",)
        for _ in range(60):
            deep = (deep,)
        self.assertIs(is_way(self.web, deep), False)

    def test_arguments_by_name(self):
        web = self.web
        self.assertIs(is_way(value=("e",), web=web), True)
        same(self, road_ends(road="e", web=web), ("u", "v"))
        same(self, roads_from(place="v", web=web), ("f", "g"))
        same(self, roads_to(place="v", web=web), ("e",))
        same(self, ways_from(most=1, place="v", web=web), (("f",), ("g",)))
        self.assertEqual(web_shape(web=web), "other")


class Roads(unittest.TestCase):
    def setUp(self):
        self.web = Web("road b m n\nroad a m n\nroad m n m\nroad c k m")

    def test_ends(self):
        same(self, [road_ends(self.web, road) for road in "bamc"], [("m", "n"), ("m", "n"), ("n", "m"), ("k", "m")])

    def test_roads_of_places_in_the_order_of_the_text(self):
        same(self, [roads_from(self.web, place) for place in "kmn"], [("c",), ("b", "a"), ("m",)])
        same(self, [roads_to(self.web, place) for place in "kmn"], [(), ("m", "c"), ("b", "a")])

    def test_bad_roads(self):
        for value in (*ODD_VALUES, "", "n", "k", "A", "ab", ["a"], ("a",), self.web, "a "):
            with self.subTest(value=value):
                raised_with(self, BadRoad, road_ends, value, self.web, value)

    def test_bad_places(self):
        for value in (*ODD_VALUES, "", "a", "c", "M", "mn", ["m"], ("m",), self.web, " m"):
            with self.subTest(value=value):
                raised_with(self, BadPlace, roads_from, value, self.web, value)
                raised_with(self, BadPlace, roads_to, value, self.web, value)
                raised_with(self, BadPlace, ways_from, value, self.web, value, 3)

    def test_roads_and_places_agree_in_any_web(self):
        for seed in range(40):
            web = random_web(random.Random(seed))
            for place in web.places:
                begin = tuple([name for name, one, other in web.roads if one == place])
                end = tuple([name for name, one, other in web.roads if other == place])
                same(self, (roads_from(web, place), roads_to(web, place)), (begin, end))
            for name, one, other in web.roads:
                same(self, road_ends(web, name), (one, other))


def all_ways(web, place, most):
    """All ways from a place, by trying all rows of roads."""
    names = [name for name, _, _ in web.roads]
    found = []
    for many in range(1, min(most, len(names)) + 1):
        for row in itertools.permutations(names, many):
            if is_way(web, row) and road_ends(web, row[0])[0] == place:
                found.append(row)
    return tuple(sorted(found))


def fan(steps, wide):
    """A web with so many steps, each with so many roads from one place to the next."""
    lines = []
    for step in range(steps):
        for _ in range(wide):
            lines.append(f"road {name_of(len(lines))} {name_of(step)} {name_of(step + 1)}")
    return Web("\n".join(lines))


class WaysFrom(unittest.TestCase):
    def test_one_road_and_more(self):
        web = Web(SQUARE)
        same(self, ways_from(web, "v", 1), (("f",), ("g",)))
        same(self, ways_from(web, "v", 2), (("f",), ("f", "h"), ("g",), ("g", "h")))
        right = (
            ("f",), ("f", "h"), ("f", "h", "e"), ("f", "h", "e", "g"),
            ("g",), ("g", "h"), ("g", "h", "e"), ("g", "h", "e", "f"),
        )
        for most in range(4, 13):
            same(self, ways_from(web, "v", most), right)

    def test_no_road_begins_there(self):
        same(self, ways_from(Web("road a p q"), "q", 12), ())

    def test_they_ascend_whatever_the_order_of_the_text(self):
        web = Web("road c p q\nroad a p q\nroad b q r\nroad aa q r")
        right = (("a",), ("a", "aa"), ("a", "b"), ("c",), ("c", "aa"), ("c", "b"))
        same(self, ways_from(web, "p", 3), right)

    def test_just_the_ways_that_there_are(self):
        for seed in range(60):
            chance = random.Random(seed)
            web = random_web(chance)
            for place in web.places:
                most = chance.randint(1, 12)
                same(self, ways_from(web, place, most), all_ways(web, place, most))

    def test_twelve_roads(self):
        web = Web(line_of(20))
        found = ways_from(web, name_of(0), 12)
        same(self, [len(found), found[0], len(found[-1])], [12, (name_of(0),), 12])
        same(self, len(ways_from(web, name_of(15), 12)), 5)
        same(self, len(ways_from(web, name_of(0), 11)), 11)

    def test_exactly_two_thousand_ways_and_more(self):
        same(self, [len(ways_from(fan(4, wide), "aaa", 12)) for wide in (4, 5)], [340, 780])
        exact = self.web_with_ways(2000)
        found = ways_from(exact, "p", 12)
        same(self, [len(found), list(found) == sorted(found), len({*found})], [2000, True, 2000])
        raised(self, TooMany, 2000, ways_from, self.web_with_ways(2001), "p", 12)
        raised(self, TooMany, 2000, ways_from, self.web_with_ways(2002), "p", 12)
        same(self, len(ways_from(self.web_with_ways(1999), "p", 12)), 1999)

    def web_with_ways(self, many):
        """A web with just so many ways from p, 1,092 at least."""
        # Six steps of three roads: 3 + 9 + .. + 3 ** 6 ways. A road that hangs at a
        # step adds as many as lead there.
        lines = []
        steps = ["p", "sa", "sb", "sc", "sd", "se", "sf"]
        for ahead, behind in zip(steps, steps[1:]):
            lines.extend([(ahead, behind)] * 3)
        lacking = many - 1092
        for step, weight in reversed(list(zip(steps, (1, 3, 9, 27, 81, 243, 729)))):
            while lacking >= weight:
                lines.append((step, "end"))
                lacking -= weight
        return Web("\n".join([f"road r{name_of(k)} {one} {other}" for k, (one, other) in enumerate(lines)]))

    def test_too_many_is_told_for_the_number_of_roads_that_is_asked(self):
        web = fan(6, 10)
        same(self, len(ways_from(web, "aaa", 3)), 1110)
        for most in range(4, 13):
            raised(self, TooMany, 2000, ways_from, web, "aaa", most)
        same(self, len(ways_from(web, "aad", 3)), 1110)

    def test_bad_numbers(self):
        web = Web(SQUARE)
        for value in (0, 13, -1, 10 ** 39, -10 ** 39, True, False, None, "1", "", (1,), [1], {}, web):
            with self.subTest(value=value):
                raised_with(self, BadNumber, ways_from, value, web, "v", value)

    def test_which_comes_first(self):
        wide = fan(6, 10)
        raised(self, BadPlace, "no", ways_from, wide, "no", 0)
        raised(self, BadPlace, 5, ways_from, wide, 5, 12)
        raised(self, BadNumber, 13, ways_from, wide, "aaa", 13)
        raised(self, BadNumber, True, ways_from, wide, "aaa", True)
        # A place behind which none goes on is one all the same.
        raised(self, BadNumber, 0, ways_from, wide, "aag", 0)


def shape_by_rings(web):
    """The shape, by trying all rows of roads."""
    names = [name for name, _, _ in web.roads]
    ring = False
    for many in range(1, len(names) + 1):
        for row in itertools.permutations(names, many):
            ends = [road_ends(web, road) for road in row]
            if all([one[1] == other[0] for one, other in zip(ends, ends[1:] + ends[:1])]):
                ring = True
                if many == len(names) and len({one for one, _ in ends}) == many:
                    return "ring"
    if ring:
        return "other"
    begins = [one for _, one, _ in web.roads]
    return "towards" if len(set(begins)) == len(begins) else "layers"


class Shapes(unittest.TestCase):
    def shape(self, right, *roads):
        self.assertEqual(web_shape(Web("\n".join(["road " + road for road in roads]))), right)
        self.assertEqual(web_shape(Web("\n".join(["road " + road for road in reversed(roads)]))), right)

    def test_rings(self):
        self.shape("ring", "a p q", "b q p")
        self.shape("ring", "a p q", "b q r", "c r p")
        self.shape("ring", "a p q", "c r p", "b q r")
        many = [f"r{name_of(k)} {name_of(k)} {name_of((k + 1) % 60)}" for k in range(60)]
        self.shape("ring", *many)
        self.shape("towards", *many[:59])

    def test_rings_with_more_roads_beside_them(self):
        self.shape("other", "a p q", "b q p", "c q r")
        self.shape("other", "a p q", "b q p", "c r q")
        self.shape("other", "a p q", "b q p", "c p q")
        self.shape("other", "a p q", "b q p", "c x y")
        self.shape("other", "a p q", "b q p", "c p x", "d x q")

    def test_rings_that_come_to_a_place_twice(self):
        self.shape("other", "a p q", "b q p", "c p r", "d r p")
        self.shape("other", "a p q", "b q p", "c p q", "d q p")

    def test_two_rings_apart(self):
        self.shape("other", "a p q", "b q p", "c r s", "d s r")
        self.shape("other", "a p q", "b q r", "c r p", "d x y", "e y x")

    def test_roads_that_lead_together(self):
        self.shape("towards", "a p q")
        self.shape("towards", "a p q", "b r q")
        self.shape("towards", "a p q", "b q r", "c r s")
        self.shape("towards", "a p q", "b r q", "c q s", "d x s", "e s z")
        self.shape("towards", "a p q", "b x y")
        self.assertEqual(web_shape(Web(line_of(60))), "towards")

    def test_a_tree_with_a_ring(self):
        self.shape("other", "a p q", "b r q", "c q s", "d s t", "e t q")
        self.shape("other", "a p q", "b q r", "c r s", "d s r")

    def test_layers(self):
        self.shape("layers", "a p q", "b p q")
        self.shape("layers", "a p q", "b p r", "c q r")
        self.shape("layers", "a p q", "b q r", "c q s", "d r t", "e s t")
        self.assertEqual(web_shape(fan(6, 10)), "layers")

    def test_a_ring_far_behind(self):
        self.shape("other", "a p q", "b p r", "c q r", "d r s", "e s r")

    def test_all_webs_of_a_few_roads(self):
        shapes = {}
        for seed in range(250):
            web = random_web(random.Random(seed), 5)
            right = shape_by_rings(web)
            shapes[right] = shapes.get(right, 0) + 1
            self.assertEqual(web_shape(web), right, web.text)
        self.assertEqual(sorted(shapes), ["layers", "other", "ring", "towards"])


class Unchanged(unittest.TestCase):
    def test_a_web_stays_as_it_is(self):
        web = Web(SQUARE)
        for place in web.places:
            ways_from(web, place, 12)
        for call in (web_shape, len):
            call(web)
        for road in ("e", "no", None):
            is_way(web, (road,))
            road in web
        same(self, [web.text, web.roads, web.places], [SQUARE, Web(SQUARE).roads, ("u", "v", "w")])
        self.assertEqual(plain(ways_from(web, "v", 12)), plain(ways_from(Web(SQUARE), "v", 12)))


if __name__ == "__main__":
    unittest.main()
