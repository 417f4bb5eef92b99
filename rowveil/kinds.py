"""Whole numbers and names, which all else is made of, numbers in texts, and tuples that begin with a word."""

LONGEST_NAME = 8
LETTERS = "abcdefghijklmnopqrstuvwxyz"
FIGURES = "0123456789"
MOST_FIGURES = 2
WORDS = (
    "rows", "view", "where", "keep", "named", "pairs", "both", "less", "count", "seal",
    "and", "or", "not", "mine", "empty", "loud", "yes", "has",
)


def is_whole(thing):
    """Whether it is a whole number."""
    # Python takes True and False for numbers; the document does not.
    return isinstance(thing, int) and not isinstance(thing, bool)


def is_whole_within(thing, least, most):
    """Whether it is a whole number from least to most."""
    return is_whole(thing) and least <= thing <= most


def is_name(thing):
    """Whether it is a name."""
    if not isinstance(thing, str) or not 1 <= len(thing) <= LONGEST_NAME:
        return False
    return thing not in WORDS and all([letter in LETTERS for letter in thing])


def are_unlike(names):
    """Whether no text of a list or tuple of texts stands there twice."""
    return len(set(names)) == len(names)


def is_rising(things):
    """Whether each of a list or tuple of things that are in order is less than the one behind it."""
    return all([thing < following for thing, following in zip(things, things[1:])])


def is_names(thing):
    """Whether it is a tuple of one or more unlike names."""
    if not isinstance(thing, tuple) or not thing:
        return False
    return all([is_name(name) for name in thing]) and are_unlike(thing)


def written_number(text, most):
    """The number from 0 to most, of one or two figures, that is written so; None of any other text."""
    if not 1 <= len(text) <= MOST_FIGURES or not all([sign in FIGURES for sign in text]):
        return None
    number = int(text)
    # Written again it has no nought ahead.
    return number if number <= most and str(number) == text else None


def word_of(thing):
    """The text that a tuple begins with; None of anything else."""
    if not isinstance(thing, tuple) or not thing or not isinstance(thing[0], str):
        return None
    return thing[0]


def with_changed(thing, kinds, kind, change):
    """The tuple with each part of that kind changed by the function; kinds are those of the parts behind its word."""
    parts = [change(part) if part_kind == kind else part for part_kind, part in zip(kinds, thing[1:])]
    return (thing[0], *parts)
