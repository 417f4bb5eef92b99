"""Points 17 to 20, with tries, written down once more, as plainly as may be: what the program is held against."""

import itertools

from rowveil.grounds import all_worlds, possible_rows
from tests import slow


def base(setting, user):
    """The base asks of a user."""
    ground, rules, views = setting
    asks = [("rows", table[0]) for table in ground]
    for name, ask, mode, users in views:
        if mode == "own" and (users == () or user in users):
            asks.append(("view", name))
    return asks


def means(setting, user, tries):
    """The base asks, with tries followed by all tries."""
    rows = [("try", table[0], row) for table in setting[0] for row in possible_rows(table)]
    return base(setting, user) + (rows if tries else [])


def comes(setting, world, user, one):
    """What comes of a base ask or a try."""
    if one[0] == "try":
        return slow.tried(setting, world, user, one[1], one[2])
    return sorted(slow.asked(setting, world, user, one, set())[1])


def rows_of_secret(setting, world, secret):
    return sorted(slow.answered(setting[0], world, secret, set())[1])


def parting(setting, user, world, other):
    for ask in base(setting, user):
        if comes(setting, world, user, ask) != comes(setting, other, user, ask):
            return ask
    return None


def table_of_all(setting, user, secret, tries):
    """For each world what comes of each means, and the secret's rows."""
    every = means(setting, user, tries)
    return [
        (world, [comes(setting, world, user, one) for one in every], rows_of_secret(setting, world, secret))
        for world in all_worlds(setting[0])
    ]


def learns(setting, user, world, secret, tries=False):
    here = [comes(setting, world, user, one) for one in means(setting, user, tries)]
    rows = rows_of_secret(setting, world, secret)
    for other, told, its in table_of_all(setting, user, secret, tries):
        if told == here and its != rows:
            return ("may", other)
    return ("knows", rows)


def kept(setting, user, secret, tries=False):
    table = table_of_all(setting, user, secret, tries)
    every = means(setting, user, tries)
    answers = sorted(rows for world, told, rows in table)
    for world, told, rows in table:
        had = [its for other, its_told, its in table if its_told == told]
        for answer in answers:
            if answer not in had:
                return ("leaks", world, answer, fewest(table, every, told, answer))
    return ("kept",)


def fewest(table, every, told, answer):
    """The fewest of all means by which no world with that answer is left."""
    for many in range(len(every) + 1):
        for places in itertools.combinations(range(len(every)), many):
            left = [
                world for world, its_told, its in table
                if its == answer and all(its_told[place] == told[place] for place in places)
            ]
            if not left:
                return [every[place] for place in places]


def to_strike(setting, user, secret, tries=False):
    ground, rules, views = setting
    lets = sorted(rule for rule in rules if rule[:2] == ("read", "let"))
    for many in range(len(lets) + 1):
        for struck in itertools.combinations(lets, many):
            left = [rule for rule in rules if rule not in struck]
            if kept((ground, left, views), user, secret, tries) == ("kept",):
                return list(struck)
    return None
