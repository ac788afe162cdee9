"""Putters: rows of puttings, within the rate, by which more and more letters wait.

The web has two sides, a and b, each with a gate, and a left and a right road from there to the gate
of the other side. When many letters wait at one gate, three steps bring more of them to the other:

1. As long as these letters cross the gate, letters for left and the other gate are put in. They wait
   behind them.
2. As long as these cross the gate, others, for right and the other gate, are put in, and wait behind
   them. At left the first ones are hindered by letters that go no further: most of them wait there.
3. Now both come to the other gate at once, two letters at a beat, and more are put in there.

The rule says how letters hinder: by "first" those that came wait with those that come; by "nearest"
who goes no further goes first; by "gone" who comes along two roads more goes first.
"""

from roadqueues.checks import is_within
from roadqueues.errors import BadNumber, BadRule, TooSlow
from roadqueues.rates import check_rate, load_ahead, room_under
from roadqueues.traffic import Traffic
from roadqueues.webs import Web

RULES = ("first", "nearest", "gone")
LEAST_GOAL = 100
GREATEST_GOAL = 400

# What keeps this rate keeps each one that is let: none of them is slower, or has a lesser burst.
SLOWEST = (9, 10, 41)

SIDES = (
    "road gatea a b\nroad lefta b c\nroad righta b c\n"
    "road gateb c d\nroad leftb d a\nroad rightb d a"
)
AHEAD_OF_LEFT = "\nroad fara u v\nroad neara v b\nroad farb x y\nroad nearb y d"


def check_hindered(rule):
    """Raise BadRule unless rule is one against which there is a putter."""
    if rule not in RULES:
        raise BadRule(rule)


def blown_web(rule):
    """The web in which the putter against this rule puts letters."""
    check_hindered(rule)
    return Web(SIDES + AHEAD_OF_LEFT if rule == "gone" else SIDES)


def putter(rule, rate, goal):
    """A row, within the rate, by which more than goal letters come to stand at one road."""
    check_hindered(rule)
    check_rate(rate)
    p, q, burst = rate
    if p * SLOWEST[1] < q * SLOWEST[0] or burst < SLOWEST[2]:
        raise TooSlow(rate)
    if not is_within(goal, LEAST_GOAL, GREATEST_GOAL):
        raise BadNumber(goal)
    feed = Feed(rule, goal)
    feed.fill(("gatea",))
    side, other = "a", "b"
    while not feed.is_done:
        move_over(feed, side, other)
        side, other = other, side
    return tuple(feed.traffic.sent)


class Feed:
    """Letters that are put in as the slowest rate lets, and the yard in which they wait.

    The load of each road is what roadqueues.rates says: so much of what is let is used up.
    """

    def __init__(self, rule, goal):
        self.rule = rule
        self.goal = goal
        self.is_done = False
        self.traffic = Traffic(blown_web(rule), rule)
        self.loads = {road: load_ahead(0, -1, 0, SLOWEST[0]) for road in self.traffic.queues}

    def waiting(self, road):
        """How many letters stand at a road."""
        return len(self.traffic.queues[road])

    def fill(self, way):
        """Put in as many letters with this way as the rate still lets at this beat."""
        room = min([room_under(self.loads[road], SLOWEST) for road in way])
        for _ in range(room):
            self.traffic.send(way)
        for road in way:
            self.loads[road] += SLOWEST[1] * room
        # The row ends with a letter of this beat: so it is played up to this beat.
        if room > 0 and self.waiting(way[0]) > self.goal:
            self.is_done = True

    def go_on(self):
        """Do the beat."""
        last = self.traffic.now
        self.traffic.carry()
        for road in list(self.loads):
            self.loads[road] = load_ahead(self.loads[road], last, last + 1, SLOWEST[0])


def move_over(feed, side, other):
    """Bring more letters than wait at the gate of one side to the gate of the other one."""
    gate, left, right = "gate" + side, "left" + side, "right" + side
    hindering = ("far" + side, "near" + side, left) if feed.rule == "gone" else (left,)
    steps = (
        ((gate, left, "gate" + other),),
        ((gate, right, "gate" + other), hindering),
        (("gate" + other,),),
    )
    for ways in steps:
        # As many letters as wait at the gate now cross it in as many beats.
        for _ in range(feed.waiting(gate)):
            for way in ways:
                feed.fill(way)
            if feed.is_done:
                return
            feed.go_on()
