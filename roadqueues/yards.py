"""Yards in which letters wait and are carried by a rule, and rows of puttings played in them."""

from roadqueues.checks import is_within
from roadqueues.errors import BadNumber, BadWay
from roadqueues.rates import LAST_BEAT, check_puttings
from roadqueues.rules import check_rule, check_rule_or_ranks
from roadqueues.traffic import Traffic, play, play_out
from roadqueues.webs import is_way


class Yard:
    """A web with letters; at each beat each road carries one of those that stand there."""

    def __init__(self, web, rule):
        check_rule(rule)
        self.web = web
        self.rule = rule
        self.traffic = Traffic(web, rule)

    @property
    def beat(self):
        """The number of the beat that comes next."""
        return self.traffic.now

    @property
    def letters(self):
        """The tuple of (beat, way) for each letter."""
        return tuple(self.traffic.sent)

    @property
    def standing(self):
        """The tuple of (name, numbers of the letters that stand there) for each road."""
        queues = self.traffic.queues
        return tuple([(road, tuple(sorted([place[-1] for place in queues[road]]))) for road in queues])

    @property
    def homes(self):
        """The tuple of (number, age) for the letters that are home, in the sequence in which they came."""
        return tuple(self.traffic.arrived)

    def put(self, way):
        """Put in a letter with this way at the beat that comes next, and tell its number."""
        if not is_way(self.web, way):
            raise BadWay(way)
        return self.traffic.send(way)

    def go_on(self):
        """Do the beat that comes next, and tell (name, number) for all roads that carried a letter."""
        return tuple(self.traffic.carry())

    def copy(self):
        """A yard that stands alike, and goes on by itself."""
        other = Yard(self.web, self.rule)
        other.traffic = self.traffic.twin()
        return other


def check_played(web, puttings, rule, beats):
    """Raise what played and crossings raise."""
    check_puttings(web, puttings)
    check_rule_or_ranks(rule, len(puttings))
    if not is_within(beats, 0, LAST_BEAT):
        raise BadNumber(beats)


def played(web, puttings, rule, beats):
    """What becomes of a row in so many beats: the homes, the rest, and the most that stood at one road."""
    check_played(web, puttings, rule, beats)
    traffic = Traffic(web, rule)
    play(traffic, puttings, beats)
    homes = tuple(sorted(traffic.arrived))
    rest = [number for number, gone in enumerate(traffic.gone) if gone < len(puttings[number][1])]
    return (homes, tuple(rest), traffic.most)


def crossings(web, puttings, rule, beats):
    """For each letter of a row the tuple of the beats, of so many, at which roads carried it."""
    check_played(web, puttings, rule, beats)
    return tuple(play(Traffic(web, rule), puttings, beats))


def all_ages(web, puttings, rule):
    """The ages of all letters of a row, played until all are home."""
    check_puttings(web, puttings)
    check_rule_or_ranks(rule, len(puttings))
    crossed = play_out(web, puttings, rule)
    return tuple([beats[-1] + 1 - putting[0] for beats, putting in zip(crossed, puttings)])
