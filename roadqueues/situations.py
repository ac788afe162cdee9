"""Situations: all that counts, right behind a beat, for what can still come about in a small yard.

A situation is a pair (letters, loads). Letters are those that stand in the yard, by their numbers, each
as (way, gone, since): the place of its way among the ways, how many roads have carried it, and, for the
rules that ask for it, since when it stands at its road, or is put in, beside the others: 0 for the beat
that comes next, -1 for the latest one ahead of it that such a letter has, and so on. The rule chooses
alike whatever beats these are. Loads are those of roadqueues.rates, none of them below 0.
"""

from roadqueues.rules import WORDS


class Situations:
    """What comes of situations, by rows with these ways that keep this rate, with the rule of a word.

    A put is a tuple of places of ways: of the letters that are put in at one beat, in their sequence. No
    puts of more letters than one above limit are told: by those the yard is too full already. What was
    worked out is kept, since the same letters, and the same loads, come about again and again.
    """

    def __init__(self, ways, word, rate, limit):
        self.ways = ways
        self.key, self.turn = WORDS[word][0]
        self.rate = rate
        self.limit = limit
        self.roads = sorted({road for way in ways for road in way})
        self.known_puts = {}
        self.known_beats = {}

    def empty(self):
        """The situation of a yard without letters, ahead of beat 0."""
        return ((), (0,) * len(self.roads))

    def steps_from(self, situation):
        """(put, situation behind the beat, places) for each put that the rate lets at the next beat.

        Places tells, for the letters ahead of the beat and behind them those of the put, the place of
        each letter in the situation behind it, None for one that is home.
        """
        letters, loads = situation
        steps = []
        for put, loads_behind in self.puts_at(loads):
            letters_behind, places = self.beat_done(letters, put)
            steps.append((put, (letters_behind, loads_behind), places))
        return steps

    def puts_at(self, loads):
        """(put, loads behind it) for each put that the rate lets at a beat ahead of which the loads are these."""
        if loads not in self.known_puts:
            told = [(put, tuple([max(0, load) for load in behind])) for put, behind in self.all_puts(loads)]
            self.known_puts[loads] = told
        return self.known_puts[loads]

    def all_puts(self, loads):
        """Such puts, those with fewer letters first, and the loads behind them, which may be below 0."""
        p, q, burst = self.rate
        latest = [((), [load - p for load in loads])]
        found = list(latest)
        for _ in range(self.limit + 1):
            longer = []
            for put, ahead in latest:
                for place, way in enumerate(self.ways):
                    behind = [load + q if road in way else load for road, load in zip(self.roads, ahead)]
                    if max(behind) <= q * burst:
                        longer.append(((*put, place), behind))
            found.extend(longer)
            latest = longer
        return found

    def beat_done(self, letters, put):
        """(letters behind the beat, places) as steps_from tells them."""
        if (letters, put) not in self.known_beats:
            put_in = [(place, 0, 0) for place in put]
            self.known_beats[(letters, put)] = self.carried([*letters, *put_in])
        return self.known_beats[(letters, put)]

    def carried(self, standing):
        """The same of letters that stand in the yard, those put in among them."""
        chosen = self.chosen(standing)
        behind = []
        places = []
        for place, letter in enumerate(standing):
            moved = self.moved(letter, place in chosen)
            if moved is None:
                places.append(None)
            else:
                places.append(len(behind))
                behind.append(moved)
        return (self.in_ranks(behind), tuple(places))

    def chosen(self, standing):
        """The places of those that are carried, one for each road at which some stand."""
        best = {}
        for place, letter in enumerate(standing):
            road = self.road_of(letter)
            if road not in best or self.worth(letter) < self.worth(standing[best[road]]):
                best[road] = place
        return list(best.values())

    def road_of(self, letter):
        """The road at which a letter stands."""
        way, gone, _ = letter
        return self.ways[way][gone]

    def worth(self, letter):
        """What the rule asks of a letter: who has the least is carried."""
        way, gone, since = letter
        worths = {"left": len(self.ways[way]) - gone, "done": gone, "beat": since, "came": since}
        return worths[self.key] if self.turn == "up" else -worths[self.key]

    def moved(self, letter, is_carried):
        """The letter behind the beat, None if it is home."""
        way, gone, since = letter
        if is_carried:
            gone += 1
        if gone == len(self.ways[way]):
            return None
        if self.key in ("left", "done") or self.key == "came" and is_carried:
            return (way, gone, 0)
        return (way, gone, since - 1)

    def in_ranks(self, letters):
        """The letters with each since told by how many others are between it and the beat that comes next."""
        ranked = []
        for letter in letters:
            way, gone, since = letter
            # Letters at unlike roads are never compared by when they came there.
            peers = [one for one in letters if self.key == "beat" or self.road_of(one) == self.road_of(letter)]
            ranked.append((way, gone, -len({one[2] for one in peers if since <= one[2] < 0})))
        return tuple(ranked)
