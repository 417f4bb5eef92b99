"""The desk: a store that is told rows of words, and answers with texts."""

from rowveil.errors import NoLine
from rowveil.grounds import EMPTY
from rowveil.kinds import is_name, written_number
from rowveil.rules import KINDS, VERBS
from rowveil.stores import Store
from rowveil.texts import read_ask, read_condition
from rowveil.views import MODES

MOST_NUMBER = 99


def verb_of(text):
    """A verb; None of any other text, as in all that follow."""
    return text if text in VERBS else None


def kind_of(text):
    """A kind of rule."""
    return text if text in KINDS else None


def mode_of(text):
    """A mode of views."""
    return text if text in MODES else None


def name_of(text):
    """A name."""
    return text if is_name(text) else None


def number_of(text):
    """A number of one or two figures."""
    return written_number(text, MOST_NUMBER)


def value_of(text):
    """A value, or the sign for an empty one."""
    return EMPTY if text == "-" else number_of(text)


def all_of(things):
    """The things, a tuple, where none of them is None."""
    return None if None in things else tuple(things)


def users_of(text):
    """Users with commas between."""
    return () if text == "all" else all_of([number_of(part) for part in text.split(",")])


def row_of(text):
    """Values with blanks between."""
    return all_of([value_of(part) for part in text.split(" ")])


PARTS = {
    "verb": verb_of,
    "kind": kind_of,
    "mode": mode_of,
    "name": name_of,
    "user": number_of,
    "users": users_of,
    "row": row_of,
}

# These have one word or more, and stand last.
LONG_PARTS = ("row", "condition", "ask")


def rows_text(rows):
    """The rows of an answer."""
    texts = [",".join(["-" if value == EMPTY else str(value) for value in row]) for row in rows]
    return ";".join(texts) if texts else "none"


def say_rule(store, verb, kind, table, users, condition):
    """Of `rule`."""
    store.put_rule((verb, kind, table, users, condition))
    return "ok"


def say_strike(store, verb, kind, table, users, condition):
    """Of `strike`."""
    store.strike_rule((verb, kind, table, users, condition))
    return "ok"


def say_show(store, name, mode, users, ask):
    """Of `show`."""
    store.put_view((name, ask, mode, users))
    return "ok"


def say_hide(store, name):
    """Of `hide`."""
    store.take_view(name)
    return "ok"


def say_fill(store, table, row):
    """Of `fill`."""
    store.fill(table, row)
    return "ok"


def say_clear(store, table, row):
    """Of `clear`."""
    store.clear_row(table, row)
    return "ok"


def say_put(store, user, table, row):
    """Of `put`."""
    store.put(user, table, row)
    return "ok"


def say_begin(store):
    """Of `begin`."""
    store.begin()
    return "ok"


def say_back(store):
    """Of `back`."""
    store.roll_back()
    return "ok"


def say_commit(store):
    """Of `commit`."""
    store.commit()
    return "ok"


def say_drop(store, user, table, condition):
    """Of `drop`."""
    return str(store.drop(user, table, condition))


def say_could(store, user):
    """Of `could`."""
    return str(store.could_be(user))


def say_rows(store):
    """Of `rows`."""
    return str(len(store))


def say_ask(store, user, ask):
    """Of `ask`."""
    head, rows = store.ask(user, ask)
    return rows_text(rows)


def say_knows(store, user, ask):
    """Of `knows`."""
    word, told = store.known(user, ask)
    return f"knows {rows_text(told)}" if word == "knows" else "may"


def say_state(store):
    """Of `state`."""
    return str(store)


# What stands behind each word, and what is done then.
LINES = {
    "rule": (("verb", "kind", "name", "users", "condition"), say_rule),
    "strike": (("verb", "kind", "name", "users", "condition"), say_strike),
    "show": (("name", "mode", "users", "ask"), say_show),
    "hide": (("name",), say_hide),
    "fill": (("name", "row"), say_fill),
    "clear": (("name", "row"), say_clear),
    "put": (("user", "name", "row"), say_put),
    "begin": ((), say_begin),
    "back": ((), say_back),
    "commit": ((), say_commit),
    "drop": (("user", "name", "condition"), say_drop),
    "could": (("user",), say_could),
    "rows": ((), say_rows),
    "ask": (("user", "ask"), say_ask),
    "knows": (("user", "ask"), say_knows),
    "state": ((), say_state),
}


def words_of(thing):
    """The words of a row, the first of them one that the desk knows (NoLine, of anything else)."""
    words = thing.split(" ") if isinstance(thing, str) else [""]
    if "" in words or words[0] not in LINES:
        raise NoLine("no row that the desk knows")
    return words


def texts_of(kinds, words):
    """A text for each kind of part: one word, but for a long part all that are left (NoLine, of other counts)."""
    single = [kind for kind in kinds if kind not in LONG_PARTS]
    texts = words[:len(single)]
    left = words[len(single):]
    if left:
        texts.append(" ".join(left))
    if len(texts) != len(kinds):
        raise NoLine("too few words, or too many")
    return texts


def part_of(kind, text):
    """The part that is so written (NoLine, of anything else; NoText, of a condition and an ask)."""
    if kind == "condition":
        return read_condition(text)
    if kind == "ask":
        return read_ask(text)
    read = PARTS[kind]
    part = read(text)
    if part is None:
        raise NoLine(f"no {kind} where one must stand")
    return part


class Desk:
    """A store behind a desk."""

    def __init__(self, ground):
        self.store = Store(ground)

    def say(self, row):
        """What the desk answers to a row (NoLine, of anything; NoText; as the store refuses)."""
        words = words_of(row)
        kinds, act = LINES[words[0]]
        texts = texts_of(kinds, words[1:])
        # Long parts stand last, so that a part that makes the row none that is known goes ahead of a wrong text.
        parts = [part_of(kind, text) for kind, text in zip(kinds, texts)]
        return act(self.store, *parts)
