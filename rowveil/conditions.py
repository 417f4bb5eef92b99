"""Conditions over columns: which there are, and what they tell."""

from rowveil.grounds import column_names, find_table
from rowveil.kinds import is_whole_within, with_changed, word_of
from rowveil.telling import Scene, make_teller

MOST_CONDITIONS = 8
MOST_VALUES = {"is": 9, "below": 10}

# What stands behind each word; "there" is a column of the table that is named ahead of it.
FORMS = {
    "yes": (),
    "is": ("column", "value"),
    "below": ("column", "value"),
    "same": ("column", "column"),
    "mine": ("column",),
    "empty": ("column",),
    "loud": ("column",),
    "has": ("table", "column", "there", "condition"),
    "not": ("condition",),
    "and": ("condition", "condition"),
    "or": ("condition", "condition"),
}


def has_form(thing):
    """Whether it is a tuple of a condition's word and as many things as stand behind that."""
    word = word_of(thing)
    return word in FORMS and len(thing) == 1 + len(FORMS[word])


def names_table(ground, thing):
    """Whether a thing of the form of has names a table, and a column of it."""
    table = find_table(ground, thing[1])
    return table is not None and thing[3] in column_names(table)


def is_part(ground, columns, thing):
    """Whether it is a condition, the conditions within it not looked at."""
    if not has_form(thing):
        return False
    word = thing[0]
    if word == "has" and not names_table(ground, thing):
        return False
    for kind, part in zip(FORMS[word], thing[1:]):
        if kind == "column" and part not in columns:
            return False
        if kind == "value" and not is_whole_within(part, 0, MOST_VALUES[word]):
            return False
    return True


def conditions_here(condition):
    """The conditions right within a condition that are over the same columns, from the left."""
    if condition[0] == "has":
        return []
    return [part for kind, part in zip(FORMS[condition[0]], condition[1:]) if kind == "condition"]


def parts_within(ground, columns, condition):
    """The conditions right within a condition, each behind the columns that it is over."""
    if condition[0] == "has":
        return [(column_names(find_table(ground, condition[1])), condition[4])]
    return [(columns, part) for part in conditions_here(condition)]


def all_parts(ground, columns, thing, most):
    """Tuples (word, whether it stands within a has) of all parts of a condition.

    None of anything else, and of a condition of more than so many parts (any number, where most is None).
    """
    found = []
    waiting = [(columns, thing, False)]
    while waiting:
        names, part, within = waiting.pop()
        if len(found) == most or not is_part(ground, names, part):
            return None
        found.append((part[0], within))
        within_has = within or part[0] == "has"
        waiting.extend([(over, inner, within_has) for over, inner in parts_within(ground, names, part)])
    return found


def bounded_parts(ground, columns, thing):
    """As all_parts, but None, too, of what has too many parts or a has within a has."""
    parts = all_parts(ground, columns, thing, MOST_CONDITIONS)
    return None if parts is None or ("has", True) in parts else parts


def is_condition(ground, columns, thing):
    """Whether it is a condition of the ground over these columns."""
    return bounded_parts(ground, columns, thing) is not None


def is_quiet_condition(ground, columns, thing):
    """Whether rules and views may have it: a condition without loud."""
    parts = bounded_parts(ground, columns, thing)
    return parts is not None and all([word != "loud" for word, within in parts])


def is_plain_condition(ground, columns, thing):
    """Whether a plain ask may have it: without mine, but of any size."""
    parts = all_parts(ground, columns, thing, None)
    return parts is not None and all([word != "mine" for word, within in parts])


def with_conditions(condition, change):
    """The condition with each condition right within it changed by the function."""
    return with_changed(condition, FORMS[condition[0]], "condition", change)


def columns_of(condition):
    """The columns here that a condition looks at, a list; those of a has's table are none of them."""
    found = [part for kind, part in zip(FORMS[condition[0]], condition[1:]) if kind == "column"]
    for part in conditions_here(condition):
        found.extend(columns_of(part))
    return found


def with_columns(condition, names):
    """The condition over other names: of each column here that which the dict has for it."""
    over = with_changed(condition, FORMS[condition[0]], "column", lambda column: names[column])
    if condition[0] == "has":
        return over
    return with_conditions(over, lambda part: with_columns(part, names))


def tells(ground, world, columns, row, condition, *, user=0):
    """What the condition tells of the row, for the user: True, False or None."""
    tell = make_teller(Scene(ground, world, user), columns, condition)
    return tell(row)
