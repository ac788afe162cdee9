"""Letters on webs whose roads all lead together: least beats, dues, and what bars less.

There the rule "farthest" is the best that can be, and so are dues as ranks if all letters go to one
place. Look, at one road, at the letters that go further roads or more from there, or at those that
are due up to some beat. No other letter is carried ahead of them, neither here nor at roads that lead
here: what goes ahead of them there comes here, too, and is one of them. So if none of them stands
here at a beat, those that come later have not been held up: their early beat is above this one.
"""

from roadqueues.checks import is_integer, is_within
from roadqueues.errors import BadDues, BadNumber, BadRoad, NotTowards, UnlikeEnds
from roadqueues.rates import LAST_BEAT, check_puttings
from roadqueues.traffic import Traffic, play, play_out
from roadqueues.webs import LONGEST_WAY, web_shape


def check_towards(web, puttings):
    """Raise NotTowards or BadPuttings unless the web is "towards" and has this row of puttings."""
    shape = web_shape(web)
    if shape != "towards":
        raise NotTowards(shape)
    check_puttings(web, puttings)


def passing(puttings, road):
    """(number, early, further) for each letter that crosses the road."""
    found = []
    for number, (beat, way) in enumerate(puttings):
        if road in way:
            place = way.index(road)
            found.append((number, beat + place, len(way) - 1 - place))
    return found


def is_timetable(web, puttings, value):
    """Whether value is a timetable for these puttings."""
    check_towards(web, puttings)
    return is_table(puttings, value)


def is_table(puttings, value):
    """Whether value tells beats for each letter, none of which has two letters cross the same road."""
    if not isinstance(value, tuple) or len(value) != len(puttings):
        return False
    if not all([is_line(putting, line) for putting, line in zip(puttings, value)]):
        return False
    crossed = [crossing for putting, line in zip(puttings, value) for crossing in zip(putting[1], line)]
    return len(set(crossed)) == len(crossed)


def is_line(putting, value):
    """Whether value is a tuple of beats at which the letter can cross its roads, were it alone."""
    beat, way = putting
    if not isinstance(value, tuple) or len(value) != len(way):
        return False
    if not all([is_integer(part) for part in value]) or value[0] < beat:
        return False
    return all([ahead < part for ahead, part in zip(value, value[1:])])


def busy_since(crossed, last):
    """The first beat of those in a row, up to the last one, at which something crosses."""
    first = last
    while first - 1 in crossed:
        first -= 1
    return first


def least_beats(web, puttings):
    """(beats, bar): the least number of beats within which all can be home, and why not less."""
    check_towards(web, puttings)
    if not puttings:
        return (0, ())
    table = play_out(web, puttings, "farthest")
    ends = [line[-1] for line in table]
    last = max(ends)
    road = puttings[ends.index(last)][1][-1]
    crossed = {beat: True for beat in beats_at(puttings, table, road)}
    early = busy_since(crossed, last)
    return (last + 1, (road, early, 0, many_behind(puttings, road, early, 0)))


def beats_at(puttings, table, road):
    """The beats at which letters cross the road in a timetable."""
    return [beat for putting, line in zip(puttings, table) for name, beat in zip(putting[1], line) if name == road]


def many_behind(puttings, road, early, further):
    """How many letters cross the road that are early there at this beat or above, and go so far or more."""
    return len([more for _, begin, more in passing(puttings, road) if begin >= early and more >= further])


def shows_least_beats(web, puttings, value):
    """Whether value is what least_beats may return."""
    beats = least_beats(web, puttings)[0]
    if not isinstance(value, tuple) or len(value) != 2 or not is_integer(value[0]) or value[0] != beats:
        return False
    bar = value[1]
    if not isinstance(bar, tuple) or len(bar) != 4:
        return not puttings and bar == ()
    # What some letter crosses is a road: so nothing else is asked of it.
    road, early, further, many = bar
    if not all([is_integer(part) for part in (early, further, many)]):
        return False
    return many >= 1 and many == many_behind(puttings, road, early, further) and early + many + further == beats


def most_crossed(web, puttings, road, further, beat):
    """The most letters, of those that go so far or more, that can cross the road below a beat."""
    check_towards(web, puttings)
    if road not in web:
        raise BadRoad(road)
    if not is_within(further, 0, LONGEST_WAY - 1):
        raise BadNumber(further)
    if not is_within(beat, 0, LAST_BEAT):
        raise BadNumber(beat)
    crossed = play(Traffic(web, "farthest"), puttings, beat)
    far = [number for number, _, more in passing(puttings, road) if more >= further]
    return len([number for number in far if len(crossed[number]) > puttings[number][1].index(road)])


def check_dues(web, puttings, dues):
    """Raise what due_table raises."""
    check_towards(web, puttings)
    if not isinstance(dues, tuple) or len(dues) != len(puttings):
        raise BadDues(dues)
    if not all([is_within(due, 0, LAST_BEAT) for due in dues]):
        raise BadDues(dues)
    places = sorted({web.ends[way[-1]][1] for _, way in puttings})
    if len(places) > 1:
        raise UnlikeEnds(tuple(places))


def due_table(web, puttings, dues):
    """("kept", table) if all can be home in time, or ("barred", road, early, late, many) if not."""
    check_dues(web, puttings, dues)
    table = play_out(web, puttings, dues)
    missed = [number for number, line in enumerate(table) if line[-1] >= dues[number]]
    if not missed:
        return ("kept", table)
    number = missed[0]
    late, road = dues[number], puttings[number][1][-1]
    crossed = {table[one][-1]: True for one, _, _ in passing(puttings, road) if dues[one] <= late}
    early = busy_since(crossed, table[number][-1])
    return ("barred", road, early, late, many_due(puttings, dues, road, early, late))


def many_due(puttings, dues, road, early, late):
    """How many letters have to cross the road at beats from early on and below late."""
    found = passing(puttings, road)
    return len([number for number, begin, more in found if begin >= early and dues[number] - more <= late])


def shows_due_table(web, puttings, dues, value):
    """Whether value is what due_table may return."""
    check_dues(web, puttings, dues)
    if not isinstance(value, tuple) or not value:
        return False
    if value[0] == "kept":
        return len(value) == 2 and is_table(puttings, value[1]) and is_in_time(value[1], dues)
    return value[0] == "barred" and len(value) == 5 and is_due_bar(puttings, dues, value)


def is_in_time(table, dues):
    """Whether each letter of a timetable is home within its due."""
    return all([line[-1] < due for line, due in zip(table, dues)])


def is_due_bar(puttings, dues, value):
    """Whether these are five parts that bar a timetable with these dues."""
    _, road, early, late, many = value
    if not all([is_integer(part) for part in (early, late, many)]):
        return False
    return many >= 1 and many == many_due(puttings, dues, road, early, late) and many > late - early
