"""Rules by which roads carry letters: words, orders, and ranks where they are let."""

from roadqueues.checks import is_integer
from roadqueues.errors import BadRule

KEYS = ("beat", "came", "left", "done", "length", "number")
TURNS = ("up", "down")

# Each word, as the order that says the same.
WORDS = {
    "eldest": (("beat", "up"),),
    "youngest": (("beat", "down"),),
    "farthest": (("left", "down"),),
    "nearest": (("left", "up"),),
    "first": (("came", "up"),),
    "last": (("came", "down"),),
    "begun": (("done", "up"),),
    "gone": (("done", "down"),),
}
BY_RANK = (("rank", "up"),)


def is_word(value):
    """Whether value is the word of a rule."""
    return isinstance(value, str) and value in WORDS


def is_part_of_order(value):
    """Whether value is a pair (key, turn)."""
    return isinstance(value, tuple) and len(value) == 2 and value[0] in KEYS and value[1] in TURNS


def is_order(value):
    """Whether value is a tuple of such pairs with unlike keys, one at least."""
    if not isinstance(value, tuple) or not value or not all([is_part_of_order(part) for part in value]):
        return False
    return len({key for key, _ in value}) == len(value)


def is_ranks(value, many):
    """Whether value is a tuple of integers, one for each of so many letters."""
    return isinstance(value, tuple) and len(value) == many and all([is_integer(rank) for rank in value])


def check_rule(rule):
    """Raise BadRule unless rule is a word or an order."""
    if not is_word(rule) and not is_order(rule):
        raise BadRule(rule)


def check_rule_or_ranks(rule, many):
    """Raise BadRule unless rule is a word, an order, or ranks of so many letters."""
    if not is_ranks(rule, many):
        check_rule(rule)


def order_of(rule):
    """The order that says the same as a rule; for ranks the one by "rank", which none other has."""
    if is_word(rule):
        return WORDS[rule]
    return rule if is_order(rule) else BY_RANK
