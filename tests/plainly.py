"""A yard that goes through point 6 of the document, beat by beat, with plain lists, and rows drawn for it."""

from roadqueues.rates import room_left
from roadqueues.webs import Web, ways_from

WORDS = {
    "eldest": lambda one: one.beat,
    "youngest": lambda one: -one.beat,
    "farthest": lambda one: -one.left(),
    "nearest": lambda one: one.left(),
    "first": lambda one: one.came,
    "last": lambda one: -one.came,
    "begun": lambda one: one.done,
    "gone": lambda one: -one.done,
}
KEYS = {
    "beat": lambda one: one.beat,
    "came": lambda one: one.came,
    "left": lambda one: one.left(),
    "done": lambda one: one.done,
    "length": lambda one: len(one.way),
    "number": lambda one: one.number,
}


class Letter:
    def __init__(self, number, beat, way):
        self.number, self.beat, self.way = number, beat, way
        self.done, self.came = 0, beat
        self.crossed = []

    def left(self):
        return len(self.way) - self.done

    def age(self):
        return self.crossed[-1] + 1 - self.beat


def by_rule(rule):
    """What chooses one of some letters, ascending by number, by a word, an order or ranks."""
    if isinstance(rule, str):
        # min tells the first one of several, which is the one with the least number.
        return lambda letters: min(letters, key=WORDS[rule])
    if rule and isinstance(rule[0], tuple):
        return lambda letters: by_order(rule, letters)
    return lambda letters: min(letters, key=lambda one: rule[one.number])


def by_order(order, letters):
    for key, turn in order:
        values = [KEYS[key](one) for one in letters]
        best = min(values) if turn == "up" else max(values)
        letters = [one for one, value in zip(letters, values) if value == best]
    return letters[0]


def by_keeper(keeper):
    """What chooses as a keeper tells."""
    return lambda letters: letters[keeper(tuple([
        (one.number, one.beat, one.way, one.done, one.came) for one in letters]))]


class PlainYard:
    def __init__(self, web, choose):
        self.web, self.choose = web, choose
        self.beat, self.most = 0, 0
        self.all, self.homes = [], []

    def put(self, way):
        self.all.append(Letter(len(self.all), self.beat, way))
        return len(self.all) - 1

    def at(self, road):
        """The letters that stand at a road, ascending by number."""
        return [one for one in self.all if one.done < len(one.way) and one.way[one.done] == road]

    def standing(self):
        return tuple([(road, tuple([one.number for one in self.at(road)])) for road, _, _ in self.web.roads])

    def letters(self):
        return tuple([(one.beat, one.way) for one in self.all])

    def crossings(self):
        return tuple([tuple(one.crossed) for one in self.all])

    def waits(self):
        """Whether some letter is not home."""
        return len(self.homes) < len(self.all)

    def go_on(self):
        carried = []
        for road, _, _ in self.web.roads:
            letters = self.at(road)
            if letters:
                self.most = max(self.most, len(letters))
                carried.append((road, self.choose(letters)))
        for _, one in carried:
            one.crossed.append(self.beat)
            one.done += 1
            one.came = self.beat + 1
        ended = [one for _, one in carried if one.done == len(one.way)]
        self.homes.extend(sorted([(one.number, one.age()) for one in ended]))
        self.beat += 1
        return tuple([(road, one.number) for road, one in carried])


def put_of(yard, row):
    """Put in the letters of a row whose beat it is."""
    for beat, way in row:
        if beat == yard.beat:
            yard.put(way)


def yard_after(web, row, choose, beats):
    """The plain yard in which a row was played for so many beats."""
    yard = PlainYard(web, choose)
    for _ in range(beats):
        put_of(yard, row)
        yard.go_on()
    return yard


def yard_played_out(web, row, choose):
    """The plain yard in which a row was played until all letters are home."""
    yard = PlainYard(web, choose)
    while len(yard.all) < len(row) or yard.waits():
        put_of(yard, row)
        yard.go_on()
    return yard


def all_ways(web, most):
    """All ways of the web with at most so many roads."""
    return [way for place in web.places for way in ways_from(web, place, most)]


def rush(chance, web, rate, beats, most):
    """Some row that keeps the rate, at many beats as full as can be, with ways of at most so many roads."""
    ways = all_ways(web, most)
    row = []
    quiet = False
    for beat in range(beats):
        if chance.random() < 0.2:
            quiet = not quiet
        for way in [] if quiet else chance.sample(ways, min(len(ways), 4)):
            many = room_left(web, tuple(row), rate, beat, way)
            row.extend([(beat, way)] * chance.choice((many, many, chance.randint(0, many))))
    return tuple(row)


def random_order(chance):
    """Some order."""
    keys = chance.sample(sorted(KEYS), chance.randint(1, 6))
    return tuple([(key, chance.choice(("up", "down"))) for key in keys])


def random_ranks(chance, many):
    """Some ranks, equal and negative ones and great ones among them."""
    great = chance.choice((2, 5, 10 ** 39))
    return tuple([chance.randint(-great, great) for _ in range(many)])


def random_rule(chance, many):
    """Some word, order, or ranks for so many letters."""
    kind = chance.randint(0, 2)
    return (chance.choice(sorted(WORDS)), random_order(chance), random_ranks(chance, many))[kind]


def random_tree(chance, most=6):
    """Some web of the shape "towards" with at most so many roads."""
    many = chance.randint(1, most)
    places = chance.sample("pqrstuvwxyz", many + 2)
    # Each place but the last ones leads to one behind it.
    lines = [f"road {name} {places[k]} {chance.choice(places[k + 1:k + 4])}"
             for k, name in enumerate(chance.sample("abcdefghijkl", many))]
    chance.shuffle(lines)
    return Web("\n".join(lines))


def random_layers(chance, most=6):
    """Some web without rings with at most so many roads."""
    places = chance.sample("pqrstuvw", chance.randint(2, 6))
    lines = []
    for name in chance.sample("abcdefghijkl", chance.randint(1, most)):
        begin, end = sorted(chance.sample(range(len(places)), 2))
        lines.append(f"road {name} {places[begin]} {places[end]}")
    return Web("\n".join(lines))


def ring_of(many):
    """The web that is one ring of so many roads."""
    names = "abcdefghijklmnopqrst"[:many]
    return Web("\n".join([f"road {name} {name} {names[(k + 1) % many]}" for k, name in enumerate(names)]))
