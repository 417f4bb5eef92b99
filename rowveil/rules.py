"""Rules: which there are, and what they let a user do to a row."""

from rowveil.conditions import is_quiet_condition
from rowveil.grounds import column_names, find_table
from rowveil.kinds import is_rising, is_whole_within
from rowveil.telling import Scene, make_teller

VERBS = ("read", "put", "drop")
KINDS = ("let", "must")
MOST_RULES = 10
MOST_USERS = 4
LAST_USER = 8
NEVER = ("not", ("yes",))


def is_user(thing):
    """Whether it is a user."""
    return is_whole_within(thing, 0, LAST_USER)


def are_users(thing):
    """Whether it is what rules and views have for their users."""
    if not isinstance(thing, tuple) or len(thing) > MOST_USERS:
        return False
    return all([is_user(user) for user in thing]) and is_rising(thing)


def is_for(users, user):
    """Whether what has these users is for this one."""
    return users == () or user in users


def is_rule(ground, thing):
    """Whether it is a rule over the ground."""
    if not isinstance(thing, tuple) or len(thing) != 5:
        return False
    verb, kind, name, users, condition = thing
    table = find_table(ground, name)
    if verb not in VERBS or kind not in KINDS or table is None or not are_users(users):
        return False
    return is_quiet_condition(ground, column_names(table), condition)


def are_rules(ground, thing):
    """Whether it is a list of rules over the ground, none twice."""
    if not isinstance(thing, list) or len(thing) > MOST_RULES:
        return False
    return all([is_rule(ground, rule) for rule in thing]) and is_rising(sorted(thing))


def joined(word, conditions):
    """One condition of one or more, with the word between them."""
    whole = conditions[0]
    for condition in conditions[1:]:
        whole = (word, whole, condition)
    return whole


def right_condition(rules, user, verb, name):
    """The condition that tells True of just the rows of the table to which the user may do what the verb tells."""
    # The order of the rules makes no difference to anything, so not to this condition either.
    due = [rule for rule in sorted(rules) if rule[0] == verb and rule[2] == name and is_for(rule[3], user)]
    lets = [rule[4] for rule in due if rule[1] == "let"]
    musts = [rule[4] for rule in due if rule[1] == "must"]
    return joined("and", [joined("or", lets), *musts]) if lets else NEVER


def right_teller(setting, world, user, verb, table):
    """A function that tells of a row of the table whether the user may do to it what the verb tells: True, or not."""
    ground, rules, views = setting
    condition = right_condition(rules, user, verb, table[0])
    return make_teller(Scene(ground, world, user), column_names(table), condition)
