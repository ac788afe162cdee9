"""All rows of puttings that keep a rate on a small web, gone through plainly, with the plain yard of plainly.py."""

import itertools

from plainly import Letter, PlainYard, all_ways, by_rule, yard_after
from roadqueues.webs import Web


def keeps_plainly(row, rate):
    """Whether the row keeps the rate, by its definition: all stretches of beats, for each road."""
    p, q, burst = rate
    for road in {road for _, way in row for road in way}:
        beats = [beat for beat, way in row if road in way]
        for begin in set(beats):
            for end in set(beats):
                if begin <= end:
                    many = len([beat for beat in beats if begin <= beat <= end])
                    if many > (end - begin + 1) * p // q + burst:
                        return False
    return True


def puts_let(ways, rate, loads):
    """All sequences of ways that the rate lets at a beat, with the loads behind it, and the greatest number of one road."""
    p, q, burst = rate
    roads = sorted(loads)
    for many in itertools.count():
        found = False
        for put in itertools.product(ways, repeat=many):
            behind = {}
            for road in roads:
                load = loads[road] + q * len([way for way in put if road in way]) - p
                behind[road] = max(load, 0)
                if load > q * burst:
                    break
            else:
                found = True
                yield put, behind
        if not found:
            return


def one_beat(web, choose, letters, put):
    """(letters behind the beat, ages of those that came home): letters are (way, done, age, beats stood here)."""
    yard = PlainYard(web, choose)
    for way, done, age, stood in letters:
        one = Letter(len(yard.all), -age, way)
        one.done, one.came = done, -stood
        yard.all.append(one)
    for way in put:
        yard.put(way)
    yard.go_on()
    behind = [(one.way, one.done, 1 - one.beat, 1 - one.came) for one in yard.all if one.done < len(one.way)]
    return tuple(behind), [age for _, age in yard.homes]


def worst_plainly(web, ways, rule, rate, limit):
    """("beyond",), or ("within", greatest age, fullest yard), by all that can come about, letters told by their ages."""
    choose = by_rule(rule)
    roads = sorted({road for way in ways for road in way})
    latest = [((), (0,) * len(roads))]
    seen = set(latest)
    oldest, fullest = 0, 0
    while latest:
        found = []
        for letters, loads in latest:
            for put, behind in puts_let(ways, rate, dict(zip(roads, loads))):
                fullest = max(fullest, len(letters) + len(put))
                if fullest > limit:
                    return ("beyond",)
                stay, ages = one_beat(web, choose, letters, put)
                oldest = max([oldest, *ages])
                state = (stay, tuple([behind[road] for road in roads]))
                if state not in seen:
                    seen.add(state)
                    found.append(state)
        latest = found
    return ("within", oldest, fullest)


def all_rows(ways, rate, beats, most):
    """All rows with these ways that keep the rate, with all beats below a number, and at most so many letters."""
    def longer(row, since):
        yield row
        if len(row) < most:
            for beat in range(since, beats):
                for way in ways:
                    if keeps_plainly((*row, (beat, way)), rate):
                        yield from longer((*row, (beat, way)), beat)

    yield from longer((), 0)


def fullness(web, row, rule, beat):
    """How many letters stand in the yard right behind those of a beat were put in."""
    yard = yard_after(web, row, by_rule(rule), beat)
    return len(yard.all) - len(yard.homes) + len([one for one, _ in row if one == beat])


def random_case(chance):
    """A small web, ways, and a rate and a limit for them."""
    places = chance.choice(("ab", "abc", "abcd"))
    lines = [f"road {name} " + " ".join(chance.sample(places, 2)) for name in "efg"[:chance.choice((1, 2, 3, 3))]]
    chance.shuffle(lines)
    web = Web("\n".join(lines))
    found = all_ways(web, 3)
    ways = tuple(sorted(chance.sample(found, min(len(found), chance.choice((1, 2, 2, 3, 3))))))
    q = chance.randint(2, 12)
    rate = (chance.randint(1, q - 1), q, chance.randint(1, 12 // q))
    return web, ways, rate, chance.choice((1, 2, 3, 4, 4))
