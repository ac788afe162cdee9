"""Rows of puttings, the rates that they keep, and their texts.

The load of a road at a beat is the greatest of q for each letter less p for each
beat, over all stretches of beats that end there. For integers, more than
(t * p) // q + burst is q times as many, less t * p, above q * burst: so a rate is
kept if no load is above q * burst.
"""

from roadqueues.checks import is_integer, is_within, number_in
from roadqueues.errors import BadNumber, BadPuttings, BadRate, BadText, BadWay, TooFast, TooMany
from roadqueues.webs import is_way

MOST_PUTTINGS = 20000
LAST_BEAT = 100000
GREATEST_Q = 100
GREATEST_BURST = 50
MOST_BEATS = 2000


def is_putting(web, value):
    """Whether value is a putting in this web."""
    if not isinstance(value, tuple) or len(value) != 2:
        return False
    return is_within(value[0], 0, LAST_BEAT) and is_way(web, value[1])


def check_puttings(web, puttings):
    """Raise BadPuttings unless puttings are a row of puttings in this web."""
    if not isinstance(puttings, tuple) or len(puttings) > MOST_PUTTINGS:
        raise BadPuttings(None)
    last = 0
    for number, putting in enumerate(puttings):
        if not is_putting(web, putting) or putting[0] < last:
            raise BadPuttings(number)
        last = putting[0]


def is_slope(p, q):
    """Whether p and q are integers as a rate has them."""
    return is_integer(p) and is_integer(q) and 0 < p < q <= GREATEST_Q


def check_rate(rate):
    """Raise BadRate unless rate is a rate."""
    if not isinstance(rate, tuple) or len(rate) != 3:
        raise BadRate(rate)
    if not is_slope(rate[0], rate[1]) or not is_within(rate[2], 1, GREATEST_BURST):
        raise BadRate(rate)


def beats_by_road(web, puttings):
    """For each road of the web, the beats of the letters that have it on their way."""
    beats_of = {road: [] for road in web.ends}
    for beat, way in puttings:
        for road in way:
            beats_of[road].append(beat)
    return beats_of


def load_ahead(load, last, beat, p):
    """The load at a beat ahead of further letters, load being that at the last beat that had some."""
    # Whatever falls below nothing is left out for a stretch that begins behind it. No
    # load is below -p: so at the last beat itself the load is the same again.
    return max(load - p * (beat - last - 1), 0) - p


def loads_of(beats, p, q):
    """The loads of a road behind each of its letters, which are put in at these beats."""
    loads = []
    load, last = 0, -1
    for beat in beats:
        load = load_ahead(load, last, beat, p) + q
        last = beat
        loads.append(load)
    return loads


def room_under(load, rate):
    """How many letters can be put in at a beat at which the load is this one."""
    _, q, burst = rate
    return (q * burst - load) // q


def broken_end(beats, rate):
    """The least beat at which a stretch ends in which a road gets more than let, or None."""
    p, q, burst = rate
    for beat, load in zip(beats, loads_of(beats, p, q)):
        if load > q * burst:
            return beat
    return None


def broken_stretch(beats, rate):
    """(end, begin, many) with the least end, then the least begin, or None."""
    p, q, burst = rate
    end = broken_end(beats, rate)
    if end is None:
        return None
    many = len([beat for beat in beats if beat <= end])
    # Stretches up to end that have this letter first are broken up to a longest one.
    # With fewer letters that is shorter: so it begins behind all letters gone through.
    for beat in beats:
        longest = (q * (many - burst) - 1) // p
        begin = max(0, end + 1 - longest)
        if begin <= beat:
            return (end, begin, many)
        many -= 1
    return None


def keeps_rate(web, puttings, rate):
    """("kept",), or ("broken", road, begin, end, many) for a stretch with more than let."""
    check_puttings(web, puttings)
    check_rate(rate)
    return told_of(beats_by_road(web, puttings), rate)


def told_of(beats_of, rate):
    """What keeps_rate tells of a row, given the beats of each road."""
    broken = []
    for place, road in enumerate(beats_of):
        stretch = broken_stretch(beats_of[road], rate)
        if stretch is not None:
            end, begin, many = stretch
            broken.append((end, begin, place, road, many))
    if not broken:
        return ("kept",)
    end, begin, _, road, many = min(broken)
    return ("broken", road, begin, end, many)


def least_burst(web, puttings, p, q):
    """The least burst with which the row keeps p and q, 0 without letters."""
    check_puttings(web, puttings)
    if not is_slope(p, q):
        raise BadRate((p, q))
    beats_of = beats_by_road(web, puttings)
    greatest = max([max(loads_of(beats_of[road], p, q), default=0) for road in beats_of])
    return (greatest + q - 1) // q


def room_left(web, puttings, rate, beat, way):
    """How many letters with this way can be put in at a beat behind the row."""
    check_puttings(web, puttings)
    check_rate(rate)
    first = puttings[-1][0] if puttings else 0
    if not is_within(beat, first, LAST_BEAT):
        raise BadNumber(beat)
    if not is_way(web, way):
        raise BadWay(way)
    beats_of = beats_by_road(web, puttings)
    told = told_of(beats_of, rate)
    if told != ("kept",):
        raise TooFast(told)
    return min([room_under(load_at(beats_of[road], beat, rate), rate) for road in way])


def load_at(beats, beat, rate):
    """The load of a road at a beat that is not below these, ahead of further letters."""
    p, q, _ = rate
    if not beats:
        return -p
    return load_ahead(loads_of(beats, p, q)[-1], beats[-1], beat, p)


def fullest(web, way, rate, beats):
    """The row with this way alone that has at each beat as many letters as the rate lets."""
    if not is_way(web, way):
        raise BadWay(way)
    check_rate(rate)
    if not is_within(beats, 0, MOST_BEATS):
        raise BadNumber(beats)
    p, q, _ = rate
    row = []
    load = 0
    for beat in range(beats):
        load = load_ahead(load, beat - 1, beat, p)
        room = room_under(load, rate)
        row.extend([(beat, way)] * room)
        load += q * room
    return tuple(row)


def joined(web, one, other):
    """One row of the letters of both, those of one ahead at equal beats."""
    check_puttings(web, one)
    check_puttings(web, other)
    if len(one) + len(other) > MOST_PUTTINGS:
        raise TooMany(MOST_PUTTINGS)
    # Sorting leaves letters of equal beats in their sequence.
    return tuple(sorted(one + other, key=lambda putting: putting[0]))


def shifted(web, puttings, beats):
    """The row with all beats so many later."""
    check_puttings(web, puttings)
    last = puttings[-1][0] if puttings else 0
    if not is_within(beats, 0, LAST_BEAT - last):
        raise BadNumber(beats)
    return tuple([(beat + beats, way) for beat, way in puttings])


def puttings_text(web, puttings):
    """The text of a row: a line for each putting."""
    check_puttings(web, puttings)
    return "\n".join([" ".join([str(beat), *way]) for beat, way in puttings])


def read_puttings(web, text):
    """The row with this text."""
    if not isinstance(text, str):
        raise BadText(0)
    if text == "":
        return ()
    row = []
    last = 0
    for number, line in enumerate(text.split("\n"), start=1):
        words = line.split(" ")
        putting = (number_in(words[0]), tuple(words[1:]))
        if number > MOST_PUTTINGS or not is_putting(web, putting) or putting[0] < last:
            raise BadText(number)
        last = putting[0]
        row.append(putting)
    return tuple(row)
