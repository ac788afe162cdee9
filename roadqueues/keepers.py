"""Keepers, rules that hold every letter below a told age, and bounds for all rules.

A letter that the elder keeper lets wait waits for letters that were put in ahead of it, or at its
beat and told ahead of it: those are home in time whatever comes later. One that the younger keeper
lets wait waits for those that were put in behind it, and they are only as many as the rate lets.
"""

from roadqueues.checks import is_integer, is_name, is_within
from roadqueues.errors import BadNumber, BadRows, HasRing, NotRing, TooFast
from roadqueues.rates import check_rate
from roadqueues.webs import LONGEST_WAY, has_ring, web_shape

MOST_ROWS = 20000


def is_natural(value):
    """Whether value is an integer from 0 on."""
    return is_integer(value) and value >= 0


def is_row_of_letter(value):
    """Whether value is a row (number, beat, way, gone, came)."""
    if not isinstance(value, tuple) or len(value) != 5:
        return False
    number, beat, way, gone, came = value
    if not all([is_natural(part) for part in (number, beat, gone, came)]) or beat > came:
        return False
    if not isinstance(way, tuple) or not gone < len(way) <= LONGEST_WAY:
        return False
    return all([is_name(road) for road in way]) and len(set(way)) == len(way)


def check_rows(rows):
    """Raise BadRows unless rows are those of letters that stand at one road, ascending by number."""
    if not isinstance(rows, tuple) or not 1 <= len(rows) <= MOST_ROWS:
        raise BadRows(rows)
    if not all([is_row_of_letter(row) for row in rows]):
        raise BadRows(rows)
    roads = [way[gone] for _, _, way, gone, _ in rows]
    numbers = [row[0] for row in rows]
    if len(set(roads)) > 1 or sorted(set(numbers)) != numbers:
        raise BadRows(rows)


def elder_keeper(rows):
    """The index of the letter that crosses: the one that was put in first."""
    check_rows(rows)
    # Rows ascend by number: of several letters of one beat this is the one with the least.
    beats = [row[1] for row in rows]
    return beats.index(min(beats))


def younger_keeper(rows):
    """The index of the letter that crosses: one that was put in at the latest beat."""
    check_rows(rows)
    # What is put in ahead of a beat shifts the numbers of later letters, but not their sequence.
    beats = [row[1] for row in rows]
    return beats.index(max(beats))


def check_most(most):
    """Raise BadNumber unless most is how many roads the longest way may have."""
    if not is_within(most, 1, LONGEST_WAY):
        raise BadNumber(most)


def keeper_bound(rate, most):
    """The age that no letter gets above by a keeper, if no way has more than so many roads."""
    check_rate(rate)
    check_most(most)
    p, q, burst = rate
    bound = 0
    for _ in range(most):
        bound = ((bound + burst - 1) * q) // (q - p) + 1
    return bound


def slow_bound(rate, most):
    """The age that no letter gets above by any rule, if the rate is slow for ways of so many roads."""
    check_rate(rate)
    check_most(most)
    p, q, burst = rate
    if p * most >= q:
        raise TooFast(rate)
    return most * (((burst - 1) * q + p) // (q - p * most) + 1)


def ring_bound(web, rate):
    """How many letters at most have any one road of a ring still to cross, by any rule."""
    if web_shape(web) != "ring":
        raise NotRing(web)
    check_rate(rate)
    p, q, burst = rate
    return burst + (len(web) * (1 + burst) * p) // (q - p)


def roads_ahead(web, road):
    """The names of all roads from which one comes to this one."""
    ahead = []
    unseen = [road]
    # In a web without rings no road comes to itself: so it is not among them.
    while unseen:
        begin = web.ends[unseen.pop()][0]
        found = [name for name, _, end in web.roads if end == begin and name not in ahead]
        ahead.extend(found)
        unseen.extend(found)
    return ahead


def layer_bounds(web, rate):
    """(road, letters, beats) for each road: so many letters stand there at most, for so many beats."""
    if has_ring(web):
        raise HasRing(web)
    check_rate(rate)
    p, q, burst = rate
    ahead = {road: roads_ahead(web, road) for road in web.ends}
    letters = {}
    # What comes to a road that comes to another one comes to this other one, too: so the
    # roads from which one comes to a road have fewer such roads than it has.
    for _, road in sorted([(len(ahead[road]), road) for road in ahead]):
        letters[road] = burst + sum([letters[name] for name in ahead[road]])
    return tuple([(road, letters[road], (letters[road] * q) // (q - p)) for road in web.ends])
