"""What several tests need: comparisons that tell True from 1, and webs and rows by chance."""

from roadqueues.webs import Web, ways_from


def plain(value):
    """The value with the kinds of all its parts, so that True is not 1 and a list is no tuple."""
    if isinstance(value, (list, tuple)):
        return (type(value).__name__, tuple([plain(part) for part in value]))
    return (type(value).__name__, value)


def same(test, found, right):
    """Fails unless both are the same, kinds included."""
    test.assertEqual(plain(found), plain(right))


def raised(test, error, value, function, *passed, **named):
    """Fails unless the call raises just this error, with just this value."""
    with test.assertRaises(error) as caught:
        function(*passed, **named)
    test.assertIs(type(caught.exception), error)
    same(test, caught.exception.value, value)
    return caught.exception


def raised_with(test, error, function, value, *rest):
    """Fails unless the call raises this error with the very object that was passed in."""
    with test.assertRaises(error) as caught:
        function(*rest)
    test.assertIs(type(caught.exception), error)
    test.assertIs(caught.exception.value, value)


def name_of(number):
    """A name of its own for each number below 17576."""
    signs = "abcdefghijklmnopqrstuvwxyz"
    return signs[number // 676] + signs[number // 26 % 26] + signs[number % 26]


def line_of(many):
    """The text of a web with so many roads, one behind the other."""
    return "\n".join([f"road {name_of(k)} {name_of(k)} {name_of(k + 1)}" for k in range(many)])


def random_web(chance, most=6):
    """Some web with at most so many roads."""
    places = "abcde"[:chance.randint(2, 5)]
    names = chance.sample("efghijkl", chance.randint(1, most))
    return Web("\n".join(["road " + " ".join([name, *chance.sample(places, 2)]) for name in names]))


def random_row(chance, web, many, last):
    """Some row of so many letters, none behind the beat last."""
    ways = [way for place in web.places for way in ways_from(web, place, 4)]
    beats = sorted([chance.randint(0, last) for _ in range(many)])
    return tuple([(beat, chance.choice(ways)) for beat in beats])


class Stranger:
    """An object that is nothing that the package knows."""


# Values of all kinds but strings, none of which is anything that is asked for.
ODD_VALUES = (
    None, True, False, 0, 1, -1, 10 ** 39, (), [], {}, (1,), ["a"], {"a": 1}, ((),),
    ("a", "b", "c", "d", "e", "f", "g", "h", "i", "j", "k", "l", "m"), ((("a",),),),
    Stranger(), {1: [2, (3,)]},
)
