"""What asks are: their forms, their bounds and their heads, of plain asks and of those that may have views."""

from rowveil.errors import NoAsk
from rowveil.grounds import column_names, find_table
from rowveil.kinds import is_name, is_names, with_changed, word_of

MOST_PAIRS = 2
MOST_PARTS = 8

# What stands behind each word.
FORMS = {
    "rows": ("table",),
    "view": ("view",),
    "where": ("ask", "condition"),
    "keep": ("ask", "names"),
    "named": ("ask", "names"),
    "pairs": ("ask", "ask"),
    "both": ("ask", "ask"),
    "less": ("ask", "ask"),
    "count": ("ask", "name"),
    "seal": ("ask",),
}


class Check:
    """One ask that is looked through: what it may have, and how much of it there is so far.

    fits tells of a ground, a head and anything whether a where may have it; known has a tuple (head, count of pairs)
    for the name of each view that may stand there; most is how many parts there may be, None for any number.
    """

    def __init__(self, ground, fits, known, most):
        self.ground = ground
        self.fits = fits
        self.known_views = known
        self.most = most
        self.parts = 0
        self.pairs = 0

    def count_part(self):
        """Takes note of one part more."""
        self.parts += 1
        if self.most is not None and self.parts > self.most:
            raise NoAsk("too many parts")

    def count_pairs(self, many):
        """Takes note of so many pairs more."""
        self.pairs += many
        if self.pairs > MOST_PAIRS:
            raise NoAsk("too many pairs")


def rows_head(check, ask):
    """Of ("rows", table)."""
    table = find_table(check.ground, ask[1])
    if table is None:
        raise NoAsk("rows of no table of the ground")
    return column_names(table)


def view_head(check, ask):
    """Of ("view", name)."""
    name = ask[1]
    if not is_name(name) or name not in check.known_views:
        raise NoAsk("no view that may stand there")
    head, pairs = check.known_views[name]
    check.count_pairs(pairs)
    return head


def where_head(check, ask):
    """Of ("where", ask, condition)."""
    head = find_head(check, ask[1])
    fits = check.fits
    if not fits(check.ground, head, ask[2]):
        raise NoAsk("where without a condition over its head that may stand there")
    return head


def keep_head(check, ask):
    """Of ("keep", ask, names)."""
    head = find_head(check, ask[1])
    names = ask[2]
    if not is_names(names) or not all([name in head for name in names]):
        raise NoAsk("keep without unlike names of its head")
    return names


def named_head(check, ask):
    """Of ("named", ask, names)."""
    head = find_head(check, ask[1])
    names = ask[2]
    if not is_names(names) or len(names) != len(head):
        raise NoAsk("named without as many unlike names as its head has")
    return names


def pairs_head(check, ask):
    """Of ("pairs", ask, ask)."""
    check.count_pairs(1)
    left = find_head(check, ask[1])
    right = find_head(check, ask[2])
    if any([name in left for name in right]):
        raise NoAsk("pairs with a name in common")
    return left + right


def shared_head(check, ask):
    """Of ("both", ask, ask) and ("less", ask, ask)."""
    left = find_head(check, ask[1])
    right = find_head(check, ask[2])
    if left != right:
        raise NoAsk("both or less of unlike heads")
    return left


def count_head(check, ask):
    """Of ("count", ask, name)."""
    find_head(check, ask[1])
    if not is_name(ask[2]):
        raise NoAsk("count without a name")
    return (ask[2],)


def seal_head(check, ask):
    """Of ("seal", ask)."""
    return find_head(check, ask[1])


HEADS = {
    "rows": rows_head,
    "view": view_head,
    "where": where_head,
    "keep": keep_head,
    "named": named_head,
    "pairs": pairs_head,
    "both": shared_head,
    "less": shared_head,
    "count": count_head,
    "seal": seal_head,
}


def has_form(thing):
    """Whether it is a tuple of an ask's word and as many things as stand behind that."""
    word = word_of(thing)
    return word in FORMS and len(thing) == 1 + len(FORMS[word])


def find_head(check, thing):
    """The head of an ask within the one that is looked through (NoAsk, of anything else)."""
    check.count_part()
    if not has_form(thing):
        raise NoAsk("no ask")
    head_of = HEADS[thing[0]]
    return head_of(check, thing)


def asks_within(ask):
    """The asks right within an ask, from the left."""
    return [part for kind, part in zip(FORMS[ask[0]], ask[1:]) if kind == "ask"]


def with_asks(ask, change):
    """The ask with each ask right within it changed by the function."""
    return with_changed(ask, FORMS[ask[0]], "ask", change)
