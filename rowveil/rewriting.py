"""Asks of users rewritten into plain ones, and plain asks with their conditions put low."""

from rowveil.asked import check_ask
from rowveil.asks import plain_head
from rowveil.conditions import columns_of, with_columns, with_conditions
from rowveil.heads import with_asks
from rowveil.rules import right_condition


class Eyes:
    """By which an ask is rewritten: the user, its views, and for each table the condition of the rows that are seen.

    Own eyes see all rows: they have None for these conditions.
    """

    def __init__(self, user, views, reads):
        self.user = user
        self.views = views
        self.reads = reads


def user_eyes(setting, user):
    """The eyes of a user."""
    ground, rules, views = setting
    names = [table[0] for table in ground]
    reads = {name: with_number(right_condition(rules, user, "read", name), user) for name in names}
    return Eyes(user, {view[0]: view for view in views}, reads)


def with_number(condition, user):
    """The condition with the user's number in the place of mine."""
    if condition[0] == "mine":
        return ("is", condition[1], user)
    return with_conditions(condition, lambda part: with_number(part, user))


def with_veil(condition, reads):
    """The condition with has looking on at those rows only that are seen."""
    inner = with_conditions(condition, lambda part: with_veil(part, reads))
    if inner[0] != "has":
        return inner
    word, name, column, other, there = inner
    return (word, name, column, other, ("and", reads[name], there))


def condition_through(eyes, condition):
    """The plain condition that tells, over all rows, what the condition tells over those that the eyes see."""
    plain = with_number(condition, eyes.user)
    return plain if eyes.reads is None else with_veil(plain, eyes.reads)


def view_through(eyes, name):
    """As ask_through, of a view."""
    view_name, inner, mode, users = eyes.views[name]
    if mode == "asker" or eyes.reads is None:
        return ask_through(eyes, inner)
    # Conditions of the user's ask must not hear of rows within that the view itself does not show.
    return ("seal", ask_through(Eyes(eyes.user, eyes.views, None), inner))


def ask_through(eyes, ask):
    """The plain ask that answers, over all rows, what the ask answers over those that the eyes see."""
    if ask[0] == "view":
        return view_through(eyes, ask[1])
    if ask[0] == "rows":
        return ask if eyes.reads is None else ("seal", ("where", ask, eyes.reads[ask[1]]))
    plain = with_asks(ask, lambda part: ask_through(eyes, part))
    if ask[0] == "where":
        return ("where", plain[1], condition_through(eyes, plain[2]))
    return plain


def rewritten(setting, user, thing):
    """A plain ask that answers and hears, in each world, what the user's ask does (NoAsk, NoRight)."""
    check_ask(setting, user, thing)
    return ask_through(user_eyes(setting, user), thing)


def split(condition):
    """The conditions that an and joins, from the left, none of them an and; any other condition alone."""
    if condition[0] != "and":
        return [condition]
    return split(condition[1]) + split(condition[2])


def under(ask, conditions):
    """The ask under wheres, the first condition lowest."""
    for condition in conditions:
        ask = ("where", ask, condition)
    return ask


def low_below(ground, ask, conditions):
    """Of rows, count and seal: no condition goes into these from above."""
    return under(with_asks(ask, lambda part: low(ground, part, [])), conditions)


def low_into_all(ground, ask, conditions):
    """Of keep and both: all conditions go into each ask within."""
    return with_asks(ask, lambda part: low(ground, part, conditions))


def low_named(ground, ask, conditions):
    """Of ("named", ask, names): the conditions go into it by the names that the columns have there."""
    names = dict(zip(ask[2], plain_head(ground, ask[1])))
    inner = low(ground, ask[1], [with_columns(condition, names) for condition in conditions])
    return ("named", inner, ask[2])


def low_less(ground, ask, conditions):
    """Of ("less", ask, ask): what the second one has makes no difference where the condition bars a row."""
    return ("less", low(ground, ask[1], conditions), low(ground, ask[2], []))


def is_over(head, condition):
    """Whether the head has all columns of the condition."""
    return all([column in head for column in columns_of(condition)])


def low_pairs(ground, ask, conditions):
    """Of ("pairs", ask, ask): each condition goes to the side that it is over, up to the first that is over both."""
    left = plain_head(ground, ask[1])
    right = plain_head(ground, ask[2])
    going = []
    for condition in conditions:
        # Those behind one that stays must stay, too: they are looked at only where it tells True.
        if not is_over(left, condition) and not is_over(right, condition):
            break
        going.append(condition)
    # One without columns goes to both sides, so that it goes on to stand below whatever it stood below.
    inner = (
        "pairs",
        low(ground, ask[1], [condition for condition in going if is_over(left, condition)]),
        low(ground, ask[2], [condition for condition in going if is_over(right, condition)]),
    )
    return under(inner, conditions[len(going):])


LOWS = {
    "rows": low_below,
    "keep": low_into_all,
    "named": low_named,
    "pairs": low_pairs,
    "both": low_into_all,
    "less": low_less,
    "count": low_below,
    "seal": low_below,
}


def low(ground, ask, conditions):
    """The plain ask under these conditions, the first one lowest and none an and, with all of them put low."""
    while ask[0] == "where":
        conditions = split(ask[2]) + conditions
        ask = ask[1]
    low_of = LOWS[ask[0]]
    return low_of(ground, ask, conditions)


def put_low(ground, thing):
    """The plain ask with its conditions put low (NoAsk, of anything that is no plain ask)."""
    plain_head(ground, thing)
    return low(ground, thing, [])
