"""What an integer is, a name, and a number in a text: asked by several modules."""

LONGEST_NAME = 8
MOST_FIGURES = 9


def is_integer(value):
    """Whether value is an int that is not a bool."""
    return isinstance(value, int) and not isinstance(value, bool)


def is_within(value, least, most):
    """Whether value is an integer from least to most."""
    return is_integer(value) and least <= value <= most


def is_name(value):
    """Whether value is a string of one to eight letters a to z."""
    if not isinstance(value, str) or not 1 <= len(value) <= LONGEST_NAME:
        return False
    return value.isascii() and value.isalpha() and value.islower()


def number_in(word):
    """The integer from 0 on that the word writes as Python writes it, or None."""
    if len(word) > MOST_FIGURES or not word.isascii() or not word.isdigit():
        return None
    number = int(word)
    # int lets zeros stand ahead, which Python does not write.
    return number if str(number) == word else None
