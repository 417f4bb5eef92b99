"""Deeds, of which the runs of a store are made: which there are, and how one is done."""

from rowveil.kinds import word_of

MOST_RUNS = 5


def do_put_rule(store, rule):
    """Of ("put_rule", rule)."""
    return store.put_rule(rule)


def do_strike_rule(store, rule):
    """Of ("strike_rule", rule)."""
    return store.strike_rule(rule)


def do_put_view(store, view):
    """Of ("put_view", view)."""
    return store.put_view(view)


def do_take_view(store, name):
    """Of ("take_view", name)."""
    return store.take_view(name)


def do_fill(store, table, row):
    """Of ("fill", table, row)."""
    return store.fill(table, row)


def do_clear_row(store, table, row):
    """Of ("clear_row", table, row)."""
    return store.clear_row(table, row)


def do_put(store, user, table, row):
    """Of ("put", user, table, row)."""
    return store.put(user, table, row)


def do_drop(store, user, table, condition):
    """Of ("drop", user, table, condition)."""
    return store.drop(user, table, condition)


def do_turn(store, user, table, condition, column, value):
    """Of ("turn", user, table, condition, column, value)."""
    return store.turn(user, table, condition, column, value)


def do_begin(store):
    """Of ("begin",)."""
    return store.begin()


def do_roll_back(store):
    """Of ("roll_back",)."""
    return store.roll_back()


def do_commit(store):
    """Of ("commit",)."""
    return store.commit()


def do_run(store, deeds):
    """Of ("run", deeds)."""
    return store.run(deeds)


# For each word how many things stand behind it, and how the deed is done.
DEEDS = {
    "put_rule": (1, do_put_rule),
    "strike_rule": (1, do_strike_rule),
    "put_view": (1, do_put_view),
    "take_view": (1, do_take_view),
    "fill": (2, do_fill),
    "clear_row": (2, do_clear_row),
    "put": (3, do_put),
    "drop": (3, do_drop),
    "turn": (5, do_turn),
    "begin": (0, do_begin),
    "roll_back": (0, do_roll_back),
    "commit": (0, do_commit),
    "run": (1, do_run),
}


def is_deed(thing, most):
    """Whether it is a deed, by its word and the count of its parts; a run of most runs within one another, or fewer."""
    word = word_of(thing)
    if word not in DEEDS:
        return False
    many, act = DEEDS[word]
    if len(thing) != 1 + many:
        return False
    return word != "run" or are_deeds(thing[1], most)


def are_deeds(thing, most=MOST_RUNS):
    """Whether it is what a run may be: a list of deeds, at most so many runs within one another, itself counted."""
    if most == 0 or not isinstance(thing, list):
        return False
    return all([is_deed(deed, most - 1) for deed in thing])


def do_deed(store, deed):
    """Does a deed to the store; tells what its method tells."""
    word, *parts = deed
    many, act = DEEDS[word]
    return act(store, *parts)
