"""The worst that any row of puttings within a rate can bring about on a small web, told exactly.

All situations that can come about are gone through, from the empty yard on, beat by beat. If in none
the yard gets too full, there are finitely many; then each letter that can be put in is followed, through
all that can come about behind it, for as long as it can stand in the yard.
"""

from roadqueues.checks import is_integer, is_within
from roadqueues.errors import BadNumber, BadPuttings, BadRule, BadWays, TooGreat
from roadqueues.rates import check_rate, keeps_rate
from roadqueues.rules import is_word
from roadqueues.situations import Situations
from roadqueues.traffic import play_out
from roadqueues.webs import is_way

MOST_WAYS = 3
MOST_ROADS = 3
GREATEST_LOAD = 12
GREATEST_LIMIT = 4


def check_small(web, ways, rule, rate, limit):
    """Raise what all functions here raise."""
    if not is_few_ways(web, ways):
        raise BadWays(ways)
    if not is_word(rule):
        raise BadRule(rule)
    check_rate(rate)
    if rate[2] * rate[1] > GREATEST_LOAD:
        raise TooGreat("burst")
    if not is_within(limit, 1, GREATEST_LIMIT):
        raise BadNumber(limit)


def is_few_ways(web, value):
    """Whether value is an ascending tuple of some unlike ways that have few roads together."""
    if not isinstance(value, tuple) or not 1 <= len(value) <= MOST_WAYS:
        return False
    if not all([is_way(web, way) for way in value]) or sorted({way for way in value}) != list(value):
        return False
    return len({road for way in value for road in way}) <= MOST_ROADS


class Search:
    """All situations that come about, up to one behind which the yard can be fuller than limit.

    Each is told in came_by with the one ahead of it and the put, as one of the shortest rows brings it
    about; most is how full the yard is at most, and too_full the situation and the put by which it is
    fuller than limit, None if it never is.
    """

    def __init__(self, ways, rule, rate, limit):
        self.ways = ways
        self.limit = limit
        self.situations = Situations(ways, rule, rate, limit)
        self.came_by = {self.situations.empty(): None}
        self.most = 0
        self.too_full = None
        latest = list(self.came_by)
        while latest:
            latest = self.found_behind(latest)

    def found_behind(self, latest):
        """The situations that come about behind these, and not sooner; none if the yard is too full."""
        found = []
        for situation in latest:
            for put, behind, _ in self.situations.steps_from(situation):
                self.most = max(self.most, len(situation[0]) + len(put))
                if self.most > self.limit:
                    self.too_full = (situation, put)
                    return []
                if behind not in self.came_by:
                    self.came_by[behind] = (situation, put)
                    found.append(behind)
        return found

    def row_with(self, situation, puts):
        """A row that brings the situation about, and has these puts at the beats behind it."""
        all_puts = list(puts[::-1])
        while self.came_by[situation] is not None:
            situation, put = self.came_by[situation]
            all_puts.append(put)
        all_puts.reverse()
        return tuple([(beat, self.ways[place]) for beat, put in enumerate(all_puts) for place in put])

    def longest_stay(self):
        """(age, row): the greatest age of a letter, and a row in which one has it."""
        layers = []
        latest = self.first_stays()
        while latest:
            layers.append(latest)
            latest = self.further_stays(latest)
        if not layers:
            # Every letter is home behind its first beat.
            return (1, ((0, self.ways[0]),))
        # Who stands here at last is home behind the next beat, whatever is put in.
        stay = list(layers[-1])[0]
        puts = []
        for layer in layers[::-1]:
            stay, put = layer[stay]
            puts.append(put)
        return (len(layers) + 1, self.row_with(stay, puts[::-1]))

    def first_stays(self):
        """Pairs (situation, place) of letters that stand in the yard behind the beat at which they are put in.

        Each is told with the situation ahead of this beat, and the put.
        """
        found = {}
        for situation in self.came_by:
            for put, behind, places in self.situations.steps_from(situation):
                for place in places[len(situation[0]):]:
                    if place is not None:
                        found[(behind, place)] = (situation, put)
        return found

    def further_stays(self, latest):
        """Such pairs of letters that still stand there one beat later, each told with the pair and the put."""
        found = {}
        for stay in latest:
            situation, place = stay
            for put, behind, places in self.situations.steps_from(situation):
                if places[place] is not None:
                    found[(behind, places[place])] = (stay, put)
        return found


def worst(web, ways, rule, rate, limit):
    """("beyond", row) if the yard can be fuller than limit, or ("within", age, row) with the greatest age."""
    check_small(web, ways, rule, rate, limit)
    search = Search(ways, rule, rate, limit)
    if search.too_full is not None:
        situation, put = search.too_full
        return ("beyond", search.row_with(situation, [put]))
    age, row = search.longest_stay()
    return ("within", age, row)


def fullest_yard(web, ways, rule, rate, limit):
    """How full the yard can be at most, limit + 1 if it can be fuller than limit."""
    check_small(web, ways, rule, rate, limit)
    return min(Search(ways, rule, rate, limit).most, limit + 1)


def shows_worst(web, ways, rule, rate, limit, value):
    """Whether value is what worst may return."""
    told = worst(web, ways, rule, rate, limit)
    if not isinstance(value, tuple) or len(value) != len(told) or value[0] != told[0]:
        return False
    if not is_row_with(web, ways, rate, value[-1]):
        return False
    table = play_out(web, value[-1], rule)
    if told[0] == "beyond":
        last = value[-1][-1][0]
        return len([line for line in table if line[-1] >= last]) > limit
    ages = [line[-1] + 1 - beat for line, (beat, _) in zip(table, value[-1])]
    return is_integer(value[1]) and value[1] == told[1] == max(ages)


def is_row_with(web, ways, rate, value):
    """Whether value is a row of some puttings, with these ways, that keeps the rate."""
    try:
        kept = keeps_rate(web, value, rate)
    except BadPuttings:
        return False
    return kept == ("kept",) and value != () and all([way in ways for _, way in value])
