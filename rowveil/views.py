"""Views: which there are, and what an ask needs to know of those that it may have."""

from rowveil.conditions import is_quiet_condition
from rowveil.errors import NoAsk
from rowveil.heads import MOST_PARTS, Check, asks_within, find_head
from rowveil.kinds import is_name
from rowveil.rules import are_users

MODES = ("own", "asker")
MOST_VIEWS = 4


def ask_facts(ground, known, ask):
    """The head of a view's ask and the count of its pairs, those of the known views in it counted (NoAsk)."""
    check = Check(ground, is_quiet_condition, known, MOST_PARTS)
    head = find_head(check, ask)
    return head, check.pairs


def view_facts(ground, known, thing):
    """As ask_facts, of a view that stands behind those that are known; None of anything else."""
    if not isinstance(thing, tuple) or len(thing) != 4:
        return None
    name, ask, mode, users = thing
    if not is_name(name) or mode not in MODES or not are_users(users):
        return None
    try:
        return ask_facts(ground, known, ask)
    except NoAsk:
        return None


def are_views(ground, thing):
    """Whether it is a list of views over the ground, names unlike."""
    if not isinstance(thing, list) or len(thing) > MOST_VIEWS:
        return False
    known = {}
    for view in thing:
        facts = view_facts(ground, known, view)
        if facts is None or view[0] in known:
            return False
        known[view[0]] = facts
    return True


def all_facts(ground, views):
    """A dict of a tuple (head, count of pairs) for each view's name."""
    known = {}
    for name, ask, mode, users in views:
        known[name] = ask_facts(ground, known, ask)
    return known


def has_view(ask, name):
    """Whether a view of that name stands in the ask itself; the asks of its views are not looked at."""
    if ask[0] == "view":
        return ask[1] == name
    return any([has_view(part, name) for part in asks_within(ask)])
