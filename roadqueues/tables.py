"""Timetables on any web, for letters that are all at their first roads at beat 0."""

from roadqueues.checks import is_integer
from roadqueues.errors import BadTable, BadWays, TooGreat, TooMany
from roadqueues.rules import check_rule_or_ranks
from roadqueues.traffic import play_out
from roadqueues.trees import is_line
from roadqueues.webs import is_way

MOST_LETTERS = 200
MOST_BEATS = 1000
MOST_ROADS_TRIED = 14
MOST_LETTERS_TRIED = 6


def check_ways(web, ways):
    """Raise BadWays unless ways are a tuple of ways of the web, not too many."""
    if not isinstance(ways, tuple) or len(ways) > MOST_LETTERS:
        raise BadWays(ways)
    if not all([is_way(web, way) for way in ways]):
        raise BadWays(ways)


def judged_table(web, ways, table):
    """("fine", beats), or ("odd", letter), or ("clash", road, beat, one, other) for what is wrong first."""
    check_ways(web, ways)
    if not isinstance(table, tuple) or len(table) != len(ways):
        return ("odd", -1)
    for letter, way in enumerate(ways):
        if not is_line((0, way), table[letter]):
            return ("odd", letter)
    clash = first_clash(web, ways, table)
    return ("fine", beats_of(table)) if clash is None else ("clash", *clash)


def beats_of(table):
    """How many beats a timetable has."""
    return max([line[-1] + 1 for line in table], default=0)


def first_clash(web, ways, table):
    """(road, beat, one, other) for the first two letters that cross one road at one beat, or None."""
    places = {road: place for place, road in enumerate(web.ends)}
    crossed = []
    for letter, (way, line) in enumerate(zip(ways, table)):
        crossed.extend([(beat, places[road], letter) for road, beat in zip(way, line)])
    crossed = sorted(crossed)
    for one, other in zip(crossed, crossed[1:]):
        if one[:2] == other[:2]:
            beat, place, letter = one
            return (web.roads[place][0], beat, letter, other[2])
    return None


def check_fine(web, ways, table):
    """Raise BadWays, or BadTable unless the table is fine."""
    if judged_table(web, ways, table)[0] != "fine":
        raise BadTable(table)


def table_of(web, ways, rule):
    """The timetable that a yard with this rule makes, all letters being put in at beat 0."""
    check_ways(web, ways)
    check_rule_or_ranks(rule, len(ways))
    return play_out(web, tuple([(0, way) for way in ways]), rule)


def rests_of(web, ways, table):
    """(beat, road) for all rests of roads, by beats, then in the order of the web's text."""
    check_fine(web, ways, table)
    if beats_of(table) > MOST_BEATS:
        raise TooMany(MOST_BEATS)
    rests = []
    for place, road in enumerate(web.ends):
        rests.extend([(beat, place) for beat in beats_at_rest(road, ways, table)])
    return tuple([(beat, web.roads[place][0]) for beat, place in sorted(rests)])


def beats_at_rest(road, ways, table):
    """The beats at which letters stand at a road and none crosses it."""
    stays = []
    for way, line in zip(ways, table):
        if road in way:
            place = way.index(road)
            since = line[place - 1] + 1 if place > 0 else 0
            stays.append((since, line[place]))
    crossed = {last: True for _, last in stays}
    rests = []
    seen = 0
    # Stays overlap: each beat is looked at once, so that many letters that wait long do not count.
    for since, last in sorted(stays):
        rests.extend([beat for beat in range(max(since, seen), last) if beat not in crossed])
        seen = max(seen, last)
    return rests


def pushed_table(web, ways, table):
    """The timetable in which each crossing, gone through by beats, then letters, is as early as it can be."""
    check_fine(web, ways, table)
    crossed = []
    for letter, (way, line) in enumerate(zip(ways, table)):
        crossed.extend([(beat, letter, road) for road, beat in zip(way, line)])
    taken = {road: {} for road in web.ends}
    pushed = [[] for _ in ways]
    for _, letter, road in sorted(crossed):
        beat = pushed[letter][-1] + 1 if pushed[letter] else 0
        while beat in taken[road]:
            beat += 1
        taken[road][beat] = True
        pushed[letter].append(beat)
    return tuple([tuple(line) for line in pushed])


def floor_of(web, ways):
    """The greatest sum that tells, at some road, that no fine timetable has fewer beats."""
    check_ways(web, ways)
    return max([floor_at(road, ways) for road in web.ends])


def floor_at(road, ways):
    """The greatest such sum at one road, 0 if no letter crosses it."""
    found = [(way.index(road), len(way) - 1 - way.index(road)) for way in ways if road in way]
    sums = [0]
    # Between two numbers that letters have, a greater one leaves out no letter: so these are enough.
    for least_ahead in sorted({ahead for ahead, _ in found}):
        for least_behind in sorted({behind for _, behind in found}):
            many = len([ahead for ahead, behind in found if ahead >= least_ahead and behind >= least_behind])
            if many > 0:
                sums.append(least_ahead + many + least_behind)
    return max(sums)


def check_few(web, ways):
    """Raise what fewest_beats raises."""
    check_ways(web, ways)
    many = sum([len(way) for way in ways])
    if many > MOST_ROADS_TRIED:
        raise TooGreat(many)
    if len(ways) > MOST_LETTERS_TRIED:
        raise TooGreat(len(ways))


def fewest_beats(web, ways):
    """(beats, table): the least number of beats of a fine timetable, and one that has so many."""
    check_few(web, ways)
    home = tuple([len(way) for way in ways])
    latest = [(0,) * len(ways)]
    ahead_of = {latest[0]: None}
    # What is told is how many roads of each way are crossed. No road rests in a timetable that is
    # pushed, and it has no more beats: so only those in which none rests are tried, beat by beat.
    while home not in ahead_of:
        latest = tried_on(ways, latest, ahead_of)
    steps = [home]
    while ahead_of[steps[-1]] is not None:
        steps.append(ahead_of[steps[-1]])
    table = table_along(steps[::-1])
    return (beats_of(table), table)


def tried_on(ways, latest, ahead_of):
    """What can come about one beat behind these, and not sooner; it is added to ahead_of."""
    found = []
    for crossed in latest:
        for letters in all_choices(ways, crossed):
            following = tuple([many + 1 if one in letters else many for one, many in enumerate(crossed)])
            if following not in ahead_of:
                ahead_of[following] = crossed
                found.append(following)
    return found


def all_choices(ways, crossed):
    """All lists of letters, one for each road at which some stand."""
    waiting = {}
    for letter, way in enumerate(ways):
        if crossed[letter] < len(way):
            waiting.setdefault(way[crossed[letter]], []).append(letter)
    choices = [[]]
    for road in waiting:
        choices = [[*chosen, one] for chosen in choices for one in waiting[road]]
    return choices


def table_along(steps):
    """The timetable by which so many roads of each way are crossed ahead of each beat, one after the other."""
    lines = [[] for _ in steps[0]]
    for beat, (ahead, behind) in enumerate(zip(steps, steps[1:])):
        for letter, line in enumerate(lines):
            if behind[letter] > ahead[letter]:
                line.append(beat)
    return tuple([tuple(line) for line in lines])


def shows_fewest(web, ways, value):
    """Whether value is what fewest_beats may return."""
    beats = fewest_beats(web, ways)[0]
    if not isinstance(value, tuple) or len(value) != 2 or not is_integer(value[0]) or value[0] != beats:
        return False
    return judged_table(web, ways, value[1]) == ("fine", beats)
