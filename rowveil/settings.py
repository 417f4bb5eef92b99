"""Settings: a ground with its rules and views, and which world a user sees."""

from rowveil.grounds import is_ground
from rowveil.rules import are_rules, right_teller
from rowveil.views import are_views


def is_setting(thing):
    """Whether it is a setting."""
    if not isinstance(thing, tuple) or len(thing) != 3:
        return False
    ground, rules, views = thing
    return is_ground(ground) and are_rules(ground, rules) and are_views(ground, views)


def seen_rows(setting, world, user, table, rows):
    """Those of these rows of the table that the user may read, a tuple."""
    may_read = right_teller(setting, world, user, "read", table)
    return tuple([row for row in rows if may_read(row) is True])


def seen_world(setting, world, user):
    """The world that the user sees: each table with just the rows that it may read."""
    return tuple([seen_rows(setting, world, user, table, rows) for table, rows in zip(setting[0], world)])
