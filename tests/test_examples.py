"""The examples of the document, as they stand there, and those of the README."""

import doctest
import pathlib
import unittest

WEBS = """
>>> from roadqueues.webs import is_way, road_ends, roads_from, roads_to, ways_from, Web, web_shape
>>> web = Web('road e u v\\nroad f v w\\nroad g v w\\nroad h w u')
>>> [web.roads[1], web.places, len(web), 'g' in web, 'u' in web]
[('f', 'v', 'w'), ('u', 'v', 'w'), 4, True, False]
>>> [is_way(web, ('e', 'f', 'h')), is_way(web, ('e', 'f', 'h', 'e')), is_way(web, ('f', 'g')), is_way(web, ('f', 'h', 'e', 'g')), is_way(web, ())]
[True, False, False, True, False]
>>> [road_ends(web, 'h'), roads_from(web, 'v'), roads_to(web, 'w'), ways_from(web, 'w', 2)]
[('w', 'u'), ('f', 'g'), ('f', 'g'), (('h',), ('h', 'e'))]
>>> [web_shape(web), web_shape(Web('road a p q\\nroad b q p')), web_shape(Web('road a p q\\nroad b r q')), web_shape(Web('road a p q\\nroad b p q'))]
['other', 'ring', 'towards', 'layers']
"""

RATES = """
>>> from roadqueues.rates import fullest, joined, keeps_rate, least_burst, puttings_text, read_puttings, room_left, shifted
>>> from roadqueues.webs import Web
>>> web = Web('road e a b\\nroad f b c')
>>> row = ((0, ('e',)), (0, ('e', 'f')), (1, ('e',)), (4, ('f',)))
>>> [keeps_rate(web, row, (1, 2, 2)), keeps_rate(web, row, (1, 3, 2)), keeps_rate(web, row, (1, 2, 1))]
[('kept',), ('broken', 'e', 0, 1, 3), ('broken', 'e', 0, 0, 2)]
>>> [least_burst(web, row, 1, 2), least_burst(web, row, 1, 3), least_burst(web, (), 1, 2)]
[2, 3, 0]
>>> [room_left(web, row, (1, 2, 2), 4, ('e', 'f')), room_left(web, row, (1, 2, 2), 4, ('f',)), room_left(web, (), (1, 2, 2), 0, ('e',))]
[1, 1, 2]
>>> fullest(web, ('f',), (2, 3, 1), 5)
((0, ('f',)), (1, ('f',)), (2, ('f',)), (4, ('f',)))
>>> [joined(web, ((0, ('e',)), (2, ('e',))), ((0, ('f',)),)), shifted(web, ((0, ('e',)),), 7)]
[((0, ('e',)), (0, ('f',)), (2, ('e',))), ((7, ('e',)),)]
>>> puttings_text(web, row[1:3]), read_puttings(web, '3 e f\\n3 f')
('0 e f\\n1 e', ((3, ('e', 'f')), (3, ('f',))))
"""


class Examples(unittest.TestCase):
    def run_examples(self, text, many):
        test = doctest.DocTestParser().get_doctest(text, {}, "examples", None, 0)
        told = []
        results = doctest.DocTestRunner(verbose=False).run(test, out=told.append)
        self.assertEqual((results.failed, results.attempted), (0, many), "".join(told))

    def test_webs(self):
        self.run_examples(WEBS, 6)

    def test_rates(self):
        self.run_examples(RATES, 10)

    def test_readme(self):
        text = pathlib.Path(__file__).resolve().parent.parent.joinpath("README.md").read_text(encoding="utf-8")
        self.run_examples(text.replace("```", ""), 11)


if __name__ == "__main__":
    unittest.main()
