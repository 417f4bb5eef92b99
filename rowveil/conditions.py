"""Conditions over columns: which there are, and what they tell."""

from rowveil.grounds import column_names, find_table
from rowveil.kinds import is_whole_within, word_of
from rowveil.telling import Scene, make_teller

MOST_PARTS = 8
MOST_VALUES = {"is": 9, "below": 10}

# What stands behind each word; "there" is a column of the table that is named ahead of it.
FORMS = {
    "yes": (),
    "is": ("column", "value"),
    "below": ("column", "value"),
    "same": ("column", "column"),
    "mine": ("column",),
    "empty": ("column",),
    "loud": ("column",),
    "has": ("table", "column", "there", "condition"),
    "not": ("condition",),
    "and": ("condition", "condition"),
    "or": ("condition", "condition"),
}


def has_form(thing):
    """Whether it is a tuple of a condition's word and as many things as stand behind that."""
    word = word_of(thing)
    return word in FORMS and len(thing) == 1 + len(FORMS[word])


def names_table(ground, thing):
    """Whether a thing of the form of has names a table, and a column of it."""
    table = find_table(ground, thing[1])
    return table is not None and thing[3] in column_names(table)


def is_part(ground, columns, thing):
    """Whether it is a condition, the conditions within it not looked at."""
    if not has_form(thing):
        return False
    word = thing[0]
    if word == "has" and not names_table(ground, thing):
        return False
    for kind, part in zip(FORMS[word], thing[1:]):
        if kind == "column" and part not in columns:
            return False
        if kind == "value" and not is_whole_within(part, 0, MOST_VALUES[word]):
            return False
    return True


def parts_within(ground, columns, condition):
    """The conditions right within a condition, each behind the columns that it is over."""
    if condition[0] == "has":
        return [(column_names(find_table(ground, condition[1])), condition[4])]
    kinds = FORMS[condition[0]]
    return [(columns, part) for kind, part in zip(kinds, condition[1:]) if kind == "condition"]


def all_parts(ground, columns, thing, most):
    """Tuples (word, whether it stands within a has) of all parts of a condition.

    None of anything else, and of a condition of more than so many parts (any number, where most is None).
    """
    found = []
    waiting = [(columns, thing, False)]
    while waiting:
        names, part, within = waiting.pop()
        if len(found) == most or not is_part(ground, names, part):
            return None
        found.append((part[0], within))
        within_has = within or part[0] == "has"
        waiting.extend([(over, inner, within_has) for over, inner in parts_within(ground, names, part)])
    return found


def is_condition(ground, columns, thing):
    """Whether it is a condition of the ground over these columns."""
    parts = all_parts(ground, columns, thing, MOST_PARTS)
    return parts is not None and ("has", True) not in parts


def is_plain_condition(ground, columns, thing):
    """Whether a plain ask may have it: without mine, but of any size."""
    parts = all_parts(ground, columns, thing, None)
    return parts is not None and all([word != "mine" for word, within in parts])


def tells(ground, world, columns, row, condition, *, user=0):
    """What the condition tells of the row, for the user: True, False or None."""
    tell = make_teller(Scene(ground, world, user), columns, condition)
    return tell(row)
