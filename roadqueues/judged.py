"""Rules of others, judged: ages above a bound, where two rules part, what a rule heeds, what blows it up."""

from heapq import heappop, heappush

from roadqueues.checks import is_within
from roadqueues.errors import BadNumber
from roadqueues.putters import RULES, blown_web, putter
from roadqueues.rates import check_puttings
from roadqueues.rules import check_rule
from roadqueues.traffic import play_out
from roadqueues.yards import all_ages, played

GREATEST_BOUND = 1000000


def check_judged(web, puttings, rule):
    """Raise BadPuttings or BadRule; ranks are no rule here."""
    check_puttings(web, puttings)
    check_rule(rule)


def broken_at(web, puttings, rule, bound):
    """("kept",), or ("broken", number, beat): the first letter that gets older than bound, and when it was due."""
    check_judged(web, puttings, rule)
    if not is_within(bound, 1, GREATEST_BOUND):
        raise BadNumber(bound)
    for number, age in enumerate(all_ages(web, puttings, rule)):
        if age > bound:
            return ("broken", number, puttings[number][0] + bound - 1)
    return ("kept",)


def parted_at(web, puttings, one, other):
    """(beat, name, mine, its) for the first road that carries unlike letters by two rules, or None."""
    check_judged(web, puttings, one)
    check_rule(other)
    by_one = carried_letters(web, puttings, one)
    by_other = carried_letters(web, puttings, other)
    # At the first beat that is not alike the same letters stand at each road: so both carry one there.
    parted = [crossing for crossing in by_one if by_other.get(crossing) != by_one[crossing]]
    if not parted:
        return None
    beat, place = min(parted)
    return (beat, web.roads[place][0], by_one[(beat, place)], by_other[(beat, place)])


def carried_letters(web, puttings, rule):
    """A dict with the letter that is carried for each (beat, place of the road in the web)."""
    places = {road: place for place, road in enumerate(web.ends)}
    carried = {}
    for number, line in enumerate(play_out(web, puttings, rule)):
        for road, beat in zip(puttings[number][1], line):
            carried[(beat, places[road])] = number
    return carried


def later_heeded(web, puttings, rule):
    """(t, number): the least t such that what is put in behind it changes when a letter is carried, or None."""
    return heeded(web, puttings, rule, 1)


def earlier_heeded(web, puttings, rule):
    """(t, number): the greatest t such that what is put in ahead of it changes when a letter is carried, or None."""
    return heeded(web, puttings, rule, -1)


def heeded(web, puttings, rule, sign):
    """What later_heeded returns, or earlier_heeded if sign is -1."""
    check_judged(web, puttings, rule)
    table = play_out(web, puttings, rule)
    t = first_passed(puttings, table, sign)
    if t is None:
        return None
    kept = [number for number, (beat, _) in enumerate(puttings) if sign * beat <= sign * t]
    return (t, first_changed(web, puttings, rule, table, kept))


def first_changed(web, puttings, rule, table, kept):
    """The least of these numbers whose letter is carried at other beats if all others are left out."""
    alone = play_out(web, tuple([puttings[number] for number in kept]), rule)
    return min([number for number, line in zip(kept, alone) if line != table[number]])


def first_passed(puttings, table, sign):
    """The least beat of a letter, or the greatest if sign is -1, that stands where one with a greater beat,
    or a lesser one, is carried; None if there is none.

    A rule compares letters two by two, by what they bear themselves. So if some are left out, all others are
    carried alike, up to where one of those left out is carried while one of the others stands there.
    """
    stays = {}
    for (beat, way), line in zip(puttings, table):
        came = beat
        for road, crossed in zip(way, line):
            stays.setdefault(road, []).append((came, crossed, sign * beat))
            came = crossed + 1
    passed = [beat for road in stays for beat in beats_passed(stays[road])]
    return sign * min(passed) if passed else None


def beats_passed(stays):
    """The least beat that a letter has which stays at a road, for each one carried there, if it is below its own.

    Stays are (came, crossed, beat) for all letters that cross this road.
    """
    coming = sorted(stays)
    waiting = []
    passed = []
    at = 0
    for crossed, beat in sorted([(crossed, beat) for _, crossed, beat in stays]):
        while at < len(coming) and coming[at][0] <= crossed:
            heappush(waiting, (coming[at][2], coming[at][1]))
            at += 1
        # Who has crossed is taken out no sooner than it would be told.
        while waiting and waiting[0][1] <= crossed:
            heappop(waiting)
        if waiting and waiting[0][0] < beat:
            passed.append(waiting[0][0])
    return passed


def blown_by(rule, rate, goal):
    """(word, most) for each word against which there is a putter: what this rule makes of its row."""
    check_rule(rule)
    told = []
    for word in RULES:
        row = putter(word, rate, goal)
        most = played(blown_web(word), row, rule, row[-1][0] + 1)[2]
        told.append((word, most))
    return tuple(told)
