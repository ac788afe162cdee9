"""Letters that stand at the roads of a web, and are carried beat by beat, by any rule."""

from heapq import heappop, heappush

from roadqueues.rules import BY_RANK, order_of


class Traffic:
    """What goes on in a yard, ahead of the beat now. The rule may be ranks; nothing is checked here.

    Letters have numbers: sent tells (beat, way) and gone how many roads have carried it, for each of
    them. A queue for each road is a heap of places, tuples that end with the number of a letter: what
    a place says does not change while a letter stands at a road. Letters that are home are told by
    arrived, as (number, age); most is the greatest number that stood at a road when it carried one.
    """

    def __init__(self, web, rule):
        self.web = web
        self.rule = rule
        self.order = order_of(rule)
        self.ranks = rule if self.order == BY_RANK else ()
        self.now = 0
        self.most = 0
        self.sent = []
        self.gone = []
        self.arrived = []
        self.queues = {road: [] for road in web.ends}

    def send(self, way):
        """Put in a letter at the beat that comes next, and tell its number."""
        number = len(self.sent)
        self.sent.append((self.now, way))
        self.gone.append(0)
        self.line_up(number)
        return number

    def line_up(self, number):
        """Let a letter stand at the next road of its way, from the beat now on."""
        beat, way = self.sent[number]
        gone = self.gone[number]
        worth = {
            "beat": beat,
            "came": self.now,
            "left": len(way) - gone,
            "done": gone,
            "length": len(way),
            "number": number,
            "rank": self.ranks[number] if self.ranks else 0,
        }
        keys = [worth[key] if turn == "up" else -worth[key] for key, turn in self.order]
        heappush(self.queues[way[gone]], (*keys, number))

    def carry(self):
        """Do the beat now: a list of (road, number) for what was carried, in the order of the web's text."""
        roads = [road for road in self.queues if self.queues[road]]
        carried = []
        for road in roads:
            self.most = max(self.most, len(self.queues[road]))
            place = heappop(self.queues[road])
            carried.append((road, place[-1]))
        self.now += 1
        for number in sorted([letter for _, letter in carried]):
            self.move(number)
        return carried

    def move(self, number):
        """Let a letter that was carried stand at its next road, or be home."""
        beat, way = self.sent[number]
        self.gone[number] += 1
        if self.gone[number] < len(way):
            self.line_up(number)
        else:
            self.arrived.append((number, self.now - beat))

    def is_empty(self):
        """Whether all letters that were put in are home."""
        return len(self.arrived) == len(self.sent)

    def twin(self):
        """Another one that stands alike; what is done with one does not change the other."""
        other = Traffic(self.web, self.rule)
        other.now = self.now
        other.most = self.most
        other.sent = list(self.sent)
        other.gone = list(self.gone)
        other.arrived = list(self.arrived)
        other.queues = {road: list(self.queues[road]) for road in self.queues}
        return other


def play(traffic, puttings, beats):
    """Put a row in and go on, from beat 0 on, until so many beats are done or all letters are home.

    Returns a list with the tuple of the beats, for each letter, at which roads carried it.
    """
    crossed = [[] for _ in puttings]
    coming = 0
    while traffic.now < beats and (coming < len(puttings) or not traffic.is_empty()):
        now = traffic.now
        while coming < len(puttings) and puttings[coming][0] == now:
            traffic.send(puttings[coming][1])
            coming += 1
        for _, number in traffic.carry():
            crossed[number].append(now)
        if traffic.is_empty() and coming < len(puttings):
            # Nothing stands anywhere until the next letter comes.
            traffic.now = puttings[coming][0]
    return [tuple(beats_of) for beats_of in crossed]


def play_out(web, puttings, rule):
    """For each letter of a row the tuple of the beats at which it crosses its roads, until all are home."""
    # Whenever letters stand somewhere, one of them crosses a road: so this is long enough.
    last = puttings[-1][0] if puttings else 0
    beats = last + 1 + sum([len(way) for _, way in puttings])
    return tuple(play(Traffic(web, rule), puttings, beats))
