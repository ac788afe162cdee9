"""The examples of the document, as they stand there, and those of the README."""

import doctest
import pathlib
import unittest

WEBS = """
>>> from roadqueues.webs import is_way, road_ends, roads_from, roads_to, ways_from, Web, web_shape
>>> web = Web('road e u v\\nroad f v w\\nroad g v w\\nroad h w u')
>>> [web.roads[1], web.places, len(web), 'g' in web, 'u' in web]
[('f', 'v', 'w'), ('u', 'v', 'w'), 4, True, False]
>>> [is_way(web, ('e', 'f', 'h')), is_way(web, ('e', 'f', 'h', 'e')), is_way(web, ('f', 'g')), is_way(web, ('f', 'h', 'e', 'g')), is_way(web, ())]
[True, False, False, True, False]
>>> [road_ends(web, 'h'), roads_from(web, 'v'), roads_to(web, 'w'), ways_from(web, 'w', 2)]
[('w', 'u'), ('f', 'g'), ('f', 'g'), (('h',), ('h', 'e'))]
>>> [web_shape(web), web_shape(Web('road a p q\\nroad b q p')), web_shape(Web('road a p q\\nroad b r q')), web_shape(Web('road a p q\\nroad b p q'))]
['other', 'ring', 'towards', 'layers']
"""

RATES = """
>>> from roadqueues.rates import fullest, joined, keeps_rate, least_burst, puttings_text, read_puttings, room_left, shifted
>>> from roadqueues.webs import Web
>>> web = Web('road e a b\\nroad f b c')
>>> row = ((0, ('e',)), (0, ('e', 'f')), (1, ('e',)), (4, ('f',)))
>>> [keeps_rate(web, row, (1, 2, 2)), keeps_rate(web, row, (1, 3, 2)), keeps_rate(web, row, (1, 2, 1))]
[('kept',), ('broken', 'e', 0, 1, 3), ('broken', 'e', 0, 0, 2)]
>>> [least_burst(web, row, 1, 2), least_burst(web, row, 1, 3), least_burst(web, (), 1, 2)]
[2, 3, 0]
>>> [room_left(web, row, (1, 2, 2), 4, ('e', 'f')), room_left(web, row, (1, 2, 2), 4, ('f',)), room_left(web, (), (1, 2, 2), 0, ('e',))]
[1, 1, 2]
>>> fullest(web, ('f',), (2, 3, 1), 5)
((0, ('f',)), (1, ('f',)), (2, ('f',)), (4, ('f',)))
>>> [joined(web, ((0, ('e',)), (2, ('e',))), ((0, ('f',)),)), shifted(web, ((0, ('e',)),), 7)]
[((0, ('e',)), (0, ('f',)), (2, ('e',))), ((7, ('e',)),)]
>>> puttings_text(web, row[1:3]), read_puttings(web, '3 e f\\n3 f')
('0 e f\\n1 e', ((3, ('e', 'f')), (3, ('f',))))
"""

YARDS = """
>>> from roadqueues.webs import Web
>>> from roadqueues.yards import all_ages, crossings, played, Yard
>>> web = Web('road a u v\\nroad b v w')
>>> row = ((0, ('a', 'b')), (0, ('a',)), (1, ('b',)))
>>> [all_ages(web, row, rule) for rule in ('eldest', 'nearest', 'youngest', (2, 1, 0))]
[(2, 2, 2), (3, 1, 1), (3, 2, 1), (3, 1, 1)]
>>> [crossings(web, row, 'eldest', 9), crossings(web, row, 'nearest', 2), played(web, row, 'nearest', 2)]
[((0, 1), (1,), (2,)), ((1,), (0,), (1,)), (((1, 1), (2, 1)), (0,), 2)]
>>> yard = Yard(web, (('length', 'up'), ('number', 'down')))
>>> [yard.put(('a', 'b')), yard.put(('a',)), yard.standing, yard.go_on(), yard.beat, yard.homes]
[0, 1, (('a', (0, 1)), ('b', ())), (('a', 1),), 1, ((1, 1),)]
>>> [yard.put(('b',)), yard.go_on(), yard.go_on(), yard.homes]
[2, (('a', 0), ('b', 2)), (('b', 0),), ((1, 1), (2, 1), (0, 3))]
"""

KEEPERS = """
>>> from roadqueues.keepers import elder_keeper, keeper_bound, layer_bounds, ring_bound, slow_bound, younger_keeper
>>> from roadqueues.webs import Web
>>> rows = ((3, 1, ('a', 'b'), 1, 4), (5, 2, ('b',), 0, 2), (6, 4, ('b', 'c'), 0, 4))
>>> [elder_keeper(rows), younger_keeper(rows)]
[0, 2]
>>> [keeper_bound((1, 2, 1), 3), keeper_bound((1, 2, 3), 1), keeper_bound((1, 2, 3), 2), keeper_bound((9, 10, 1), 3)]
[7, 5, 15, 111]
>>> [slow_bound((1, 4, 1), 3), slow_bound((1, 4, 2), 1), ring_bound(Web('road a x y\\nroad b y x'), (1, 2, 1))]
[6, 2, 5]
>>> layer_bounds(Web('road a x y\\nroad b y z\\nroad c x z'), (1, 2, 1))
(('a', 1, 2), ('b', 2, 4), ('c', 1, 2))
"""

PUTTERS = """
>>> from roadqueues.putters import blown_web, putter
>>> from roadqueues.rates import keeps_rate
>>> from roadqueues.yards import played
>>> rate, web = (9, 10, 41), blown_web('nearest')
>>> row = putter('nearest', rate, 100)
>>> [keeps_rate(web, row, rate), row[-1][0] < 6000, played(web, row, 'nearest', row[-1][0] + 1)[2] > 100]
[('kept',), True, True]
"""

TREES = """
>>> from roadqueues.trees import due_table, is_timetable, least_beats, most_crossed, shows_due_table
>>> from roadqueues.webs import Web
>>> from roadqueues.yards import crossings
>>> web = Web('road a u w\\nroad b v w\\nroad c w x')
>>> row = ((0, ('a', 'c')), (0, ('b', 'c')), (0, ('a',)), (1, ('c',)))
>>> [least_beats(web, row), least_beats(web, ()), crossings(web, row, 'farthest', 4)]
[(4, ('c', 1, 0, 3)), (0, ()), ((0, 1), (0, 2), (1,), (3,))]
>>> [most_crossed(web, row, 'c', 0, 3), most_crossed(web, row, 'a', 1, 9), most_crossed(web, row, 'b', 0, 0)]
[2, 1, 0]
>>> [is_timetable(web, row, ((0, 1), (0, 2), (1,), (3,))), is_timetable(web, row, ((0, 1), (0, 1), (1,), (3,))), is_timetable(web, row, ())]
[True, False, False]
>>> three = ((0, ('a', 'c')), (0, ('b', 'c')), (1, ('c',)))
>>> [due_table(web, three, (4, 3, 2))[0], due_table(web, three, (2, 2, 9))]
['kept', ('barred', 'c', 1, 2, 2)]
>>> [shows_due_table(web, three, (4, 3, 2), ('kept', ((0, 3), (1, 2), (1,)))), shows_due_table(web, three, (2, 2, 9), ('barred', 'c', 1, 3, 3))]
[True, False]
"""

TABLES = """
>>> from roadqueues.tables import fewest_beats, floor_of, judged_table, pushed_table, rests_of, shows_fewest, table_of
>>> from roadqueues.webs import Web
>>> web, ways = Web('road e u v\\nroad f v w\\nroad g v w\\nroad h w u'), (('e', 'f'), ('e', 'g'), ('f',))
>>> [judged_table(web, ways, table) for table in (((0, 1), (1, 2), (0,)), ((0, 1), (0, 1), (1,)), ((0, 0), (1, 2), (0,)), ())]
[('fine', 3), ('clash', 'e', 0, 0, 1), ('odd', 0), ('odd', -1)]
>>> [rests_of(web, ways, ((0, 2), (1, 3), (4,))), pushed_table(web, ways, ((0, 2), (1, 3), (4,)))]
[((0, 'f'), (1, 'f'), (2, 'g'), (3, 'f')), ((0, 1), (1, 2), (0,))]
>>> [table_of(web, ways, 'eldest'), floor_of(web, ways), fewest_beats(web, ways)[0], shows_fewest(web, ways, (3, ((1, 2), (0, 1), (0,))))]
[((0, 1), (1, 2), (0,)), 3, 3, True]
"""

WORST = """
>>> from roadqueues.webs import Web
>>> from roadqueues.worst import fullest_yard, shows_worst, worst
>>> web = Web('road e a b\\nroad f b c')
>>> [worst(web, (('e',),), 'eldest', (1, 2, 2), 4)[:2], worst(web, (('e',),), 'youngest', (1, 2, 2), 4)[:2], worst(web, (('e',),), 'eldest', (1, 2, 2), 1)[0]]
[('within', 2), ('within', 3), 'beyond']
>>> row = ((0, ('e',)), (0, ('e',)), (1, ('e',)))
>>> [shows_worst(web, (('e',),), 'youngest', (1, 2, 2), 4, ('within', 3, row)), shows_worst(web, (('e',),), 'eldest', (1, 2, 2), 4, ('within', 3, row))]
[True, False]
>>> [fullest_yard(web, (('e',),), 'youngest', (1, 2, 2), 4), fullest_yard(web, (('e',), ('e', 'f')), 'nearest', (1, 2, 1), 4)]
[2, 2]
"""

JUDGED = """
>>> from roadqueues.judged import broken_at, earlier_heeded, later_heeded, parted_at
>>> from roadqueues.webs import Web
>>> web = Web('road a u v\\nroad b v w')
>>> row = ((0, ('a', 'b')), (1, ('b',)), (1, ('a', 'b')), (2, ('b',)))
>>> [later_heeded(web, row, 'eldest'), later_heeded(web, row, 'nearest'), later_heeded(web, row, 'youngest')]
[None, None, (0, 0)]
>>> [earlier_heeded(web, row, 'youngest'), earlier_heeded(web, row, 'eldest')]
[None, (2, 3)]
>>> [broken_at(web, row, 'eldest', 2), broken_at(web, row, 'eldest', 3), broken_at(web, row, 'youngest', 3)]
[('broken', 2, 2), ('kept',), ('broken', 0, 2)]
>>> [later_heeded(web, row, (('came', 'down'),)), later_heeded(web, row, (('left', 'down'), ('beat', 'up')))]
[(1, 1), None]
>>> [parted_at(web, row, 'eldest', 'youngest'), parted_at(web, row, 'eldest', 'last'), parted_at(web, row, 'eldest', 'first')]
[(1, 'b', 0, 1), (2, 'b', 1, 2), None]
"""

DESK = """
>>> from roadqueues.desk import Desk, desk_text, read_desk
>>> desk = Desk()
>>> desk.lead(('web', 'w', 'road a u v\\nroad b v w'))
>>> desk.lead(('row', 'some', 'w', '0 a b\\n0 a\\n1 b'))
>>> desk.lead(('yard', 'old', 'w', 'eldest'))
>>> desk.note('empty')
>>> desk.lead(('play', 'old', 'some', 2))
>>> [desk.names, desk.thing_kind('some'), desk.thing_of('old').homes, desk.does_keep('some', (1, 2, 2))]
[('old', 'some', 'w'), 'row', ((0, 2), (1, 2)), ('kept',)]
>>> desk.lead(('play', 'old', 'some', 1))
>>> [desk.thing_of('old').homes, desk.thing_of('old').standing]
[((0, 2), (1, 2), (2, 2)), (('a', (4,)), ('b', (3,)))]
>>> desk.back('empty')
>>> [len(desk.thing_of('old').letters), desk.all_deeds()[1]]
[0, (('play', 'old', 'some', 2), ('play', 'old', 'some', 1))]
>>> desk_text(desk).split('\\n')[:4]
['stand 3', 'note empty 3', 'web w 2', 'road a u v']
>>> desk_text(read_desk(desk_text(desk))) == desk_text(desk)
True
"""


class Examples(unittest.TestCase):
    def run_examples(self, text, many):
        test = doctest.DocTestParser().get_doctest(text, {}, "examples", None, 0)
        told = []
        results = doctest.DocTestRunner(verbose=False).run(test, out=told.append)
        self.assertEqual((results.failed, results.attempted), (0, many), "".join(told))

    def test_webs(self):
        self.run_examples(WEBS, 6)

    def test_rates(self):
        self.run_examples(RATES, 10)

    def test_yards(self):
        self.run_examples(YARDS, 9)

    def test_keepers(self):
        self.run_examples(KEEPERS, 7)

    def test_putters(self):
        self.run_examples(PUTTERS, 6)

    def test_trees(self):
        self.run_examples(TREES, 11)

    def test_tables(self):
        self.run_examples(TABLES, 6)

    def test_worst(self):
        self.run_examples(WORST, 7)

    def test_judged(self):
        self.run_examples(JUDGED, 9)

    def test_desk(self):
        self.run_examples(DESK, 14)

    def test_readme(self):
        text = pathlib.Path(__file__).resolve().parent.parent.joinpath("README.md").read_text(encoding="utf-8")
        self.run_examples(text.replace("```", ""), 53)


if __name__ == "__main__":
    unittest.main()
