"""All timetables of small rows, and what they tell, by trying each of them."""

import itertools

from plainly import all_ways


def passing(row, road):
    """(number, early, further) for each letter that crosses the road."""
    return [(number, beat + way.index(road), len(way) - 1 - way.index(road))
            for number, (beat, way) in enumerate(row) if road in way]


def all_timetables(row, horizon):
    """All timetables with beats below the horizon."""
    tables = [((), frozenset())]
    for beat, way in row:
        longer = []
        for lines, taken in tables:
            for line in itertools.combinations(range(beat, horizon), len(way)):
                crossed = frozenset(zip(way, line))
                if not crossed & taken:
                    longer.append((lines + (line,), taken | crossed))
        tables = longer
    return [lines for lines, _ in tables]


def small_row(chance, web, most):
    """Some row of a few letters, for which there are not too many timetables, and a horizon for them."""
    ways = all_ways(web, 3)
    while True:
        beats = sorted([chance.choice((0, 0, 0, 1, 2)) for _ in range(chance.randint(0, most))])
        row = tuple([(beat, chance.choice(ways)) for beat in beats])
        # Some letter can cross at each beat behind the last putting: so all can be home within as many beats.
        horizon = (row[-1][0] if row else 0) + sum([len(way) for _, way in row])
        many = 1
        for beat, way in row:
            many *= len(list(itertools.combinations(range(beat, horizon), len(way))))
        if many <= 20000:
            return row, horizon


def least_plainly(tables):
    """The least beats within which some timetable has all letters home."""
    return min([max([line[-1] + 1 for line in table], default=0) for table in tables])


def crossed_plainly(row, tables, road, further, beat):
    """The most letters that go so far that some timetable has cross the road below the beat."""
    far = [(number, row[number][1].index(road)) for number, _, more in passing(row, road) if more >= further]
    return max([len([number for number, place in far if table[number][place] < beat]) for table in tables])


def kept_plainly(tables, dues):
    """Whether some timetable has each letter home within its due."""
    return any([all([line[-1] < due for line, due in zip(table, dues)]) for table in tables])


def is_bar(row, beats, road, early, further, many):
    """Whether these are a bar of least beats, by its definition."""
    count = len([1 for _, begin, more in passing(row, road) if begin >= early and more >= further])
    return many == count and count >= 1 and early + many + further == beats


def is_due_bar(row, dues, road, early, late, many):
    """Whether these bar all timetables with these dues, by their definition."""
    count = len([1 for number, begin, more in passing(row, road) if begin >= early and dues[number] - more <= late])
    return many == count and count >= 1 and many > late - early
