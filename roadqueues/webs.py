"""Webs of one-way roads between places, and the ways that lead along them."""

from roadqueues.checks import is_name, is_within
from roadqueues.errors import BadNumber, BadPlace, BadRoad, BadWeb, TooMany

MOST_ROADS = 60
LONGEST_WAY = 12
MOST_WAYS = 2000


class Web:
    """A web, read from its text. Of its attributes, ends tells (from, to) by the name of a road."""

    def __init__(self, text):
        ends = read_ends(text)
        self.text = text
        self.ends = ends
        self.roads = tuple([(name, *ends[name]) for name in ends])
        self.places = tuple(sorted({place for name in ends for place in ends[name]}))

    def __len__(self):
        return len(self.roads)

    def __contains__(self, value):
        # What is no string may be something that no dict can be asked for.
        return isinstance(value, str) and value in self.ends

    def __eq__(self, other):
        return isinstance(other, Web) and self.text == other.text


def read_ends(text):
    """A dict with (from, to) for each name of a road, in the order of the text."""
    if not isinstance(text, str):
        raise BadWeb(0)
    ends = {}
    for number, line in enumerate(text.split("\n"), start=1):
        words = line.split(" ")
        if number > MOST_ROADS or not is_road_line(words) or words[1] in ends:
            raise BadWeb(number)
        ends[words[1]] = (words[2], words[3])
    return ends


def is_road_line(words):
    """Whether these are the words of a line of a web, whatever lines stand above it."""
    if len(words) != 4 or words[0] != "road":
        return False
    return all([is_name(word) for word in words[1:]]) and words[2] != words[3]


def is_way(web, value):
    """Whether value is a way of the web."""
    if not isinstance(value, tuple) or not 1 <= len(value) <= LONGEST_WAY:
        return False
    if not all([road in web for road in value]) or len(set(value)) < len(value):
        return False
    return all([web.ends[ahead][1] == web.ends[road][0] for ahead, road in zip(value, value[1:])])


def road_ends(web, road):
    """(from, to) of a road."""
    if road not in web:
        raise BadRoad(road)
    return web.ends[road]


def roads_from(web, place):
    """The names of the roads that begin at a place, in the order of the text."""
    if place not in web.places:
        raise BadPlace(place)
    return tuple([name for name, begin, _ in web.roads if begin == place])


def roads_to(web, place):
    """The names of the roads that end at a place, in the order of the text."""
    if place not in web.places:
        raise BadPlace(place)
    return tuple([name for name, _, end in web.roads if end == place])


def ways_from(web, place, most):
    """All ways with at most so many roads that begin at a place, ascending."""
    longest = [(road,) for road in roads_from(web, place)]
    if not is_within(most, 1, LONGEST_WAY):
        raise BadNumber(most)
    ways = list(longest)
    for _ in range(1, most):
        # Each part of a way from its begin on is a way too: so none is missed, and
        # too many are seen before they are multiplied again.
        longest = longer_ways(web, longest)
        ways.extend(longest)
        if len(ways) > MOST_WAYS:
            raise TooMany(MOST_WAYS)
    return tuple(sorted(ways))


def longer_ways(web, ways):
    """All ways that have one road more, at their end, than one of these."""
    longer = []
    for way in ways:
        following = roads_from(web, web.ends[way[-1]][1])
        longer.extend([(*way, road) for road in following if road not in way])
    return longer


def web_shape(web):
    """Which shape the web has: "ring", "towards", "layers" or "other"."""
    if is_one_ring(web):
        return "ring"
    if has_ring(web):
        return "other"
    begins = [begin for _, begin, _ in web.roads]
    return "towards" if len(set(begins)) == len(begins) else "layers"


def is_one_ring(web):
    """Whether all roads are one ring that comes to no place twice."""
    first = web.roads[0][1]
    place = first
    for many in range(1, len(web) + 1):
        roads = roads_from(web, place)
        if len(roads) != 1:
            return False
        place = web.ends[roads[0]][1]
        if place == first:
            return many == len(web)
    return False


def has_ring(web):
    """Whether some roads of the web are a ring."""
    left = list(web.roads)
    while left:
        begins = [begin for _, begin, _ in left]
        # A road behind which none goes on is in no ring; if there is no such road,
        # whoever goes on and on along those that are left comes round.
        led_on = [road for road in left if road[2] in begins]
        if len(led_on) == len(left):
            return True
        left = led_on
    return False
