"""What a user asks: answered over what it sees, by the rules, with the views that are for it."""

from rowveil.asks import find_answer
from rowveil.conditions import is_condition
from rowveil.errors import NoRight
from rowveil.heads import MOST_PARTS, Check, asks_within, find_head
from rowveil.rules import is_for
from rowveil.settings import seen_world
from rowveil.telling import Scene
from rowveil.views import all_facts


def check_rights(views, user, ask):
    """Refuses (NoRight) the first view that is not for the user, as the ask is read from the left."""
    if ask[0] == "view":
        name, inner, mode, users = views[ask[1]]
        if not is_for(users, user):
            raise NoRight(name)
        # What a view with own eyes has in it needs no right of the user's.
        if mode == "asker":
            check_rights(views, user, inner)
    for part in asks_within(ask):
        check_rights(views, user, part)


def check_ask(setting, user, thing):
    """Refuses anything that is no ask of the setting (NoAsk), or for which the user has no right (NoRight)."""
    ground, rules, views = setting
    find_head(Check(ground, is_condition, all_facts(ground, views), MOST_PARTS), thing)
    check_rights({view[0]: view for view in views}, user, thing)


def scene_of(setting, world, user):
    """The scene of what the user sees, with that of all rows behind it."""
    ground, rules, views = setting
    whole = Scene(ground, world, user, views)
    return Scene(ground, seen_world(setting, world, user), user, views, whole)


def answer(setting, world, user, thing):
    """What the user is answered (NoAsk, of anything that is no ask of the setting; NoRight)."""
    check_ask(setting, user, thing)
    return find_answer(scene_of(setting, world, user), thing)


def heard(setting, world, user, thing):
    """What the user's ask hears, a rising list of tuples (column, value) (NoAsk, NoRight)."""
    check_ask(setting, user, thing)
    scene = scene_of(setting, world, user)
    find_answer(scene, thing)
    return scene.all_heard()
