"""Rows put, dropped and turned by users, and what tries to put rows give away."""

from rowveil.conditions import is_condition
from rowveil.errors import Full, NoCondition, NoRow, NotLet, Taken
from rowveil.grounds import (
    MOST_IN_TABLE, MOST_ROWS, check_few_rows, column_names, find_table, is_row, is_value, key_of, possible_rows,
)
from rowveil.kinds import is_rising
from rowveil.rules import right_teller
from rowveil.settings import seen_world
from rowveil.telling import Scene, make_teller


def rows_of(ground, world, name):
    """The rows that a world has for the table of that name, a tuple."""
    place = [table[0] for table in ground].index(name)
    return world[place]


def with_rows(ground, world, name, rows):
    """The world with these rows, a rising list, for the table of that name."""
    return tuple([tuple(rows) if table[0] == name else others for table, others in zip(ground, world)])


def comes_to(table, rows, row):
    """What comes of the row among these rows, whatever the rules are: "put", "taken" or "full"."""
    if key_of(table, row) in [key_of(table, other) for other in rows]:
        return "taken"
    return "full" if len(rows) >= MOST_IN_TABLE else "put"


def tried(setting, world, user, table, row):
    """What a put of the row would come to: "put", "barred", "taken" or "full"."""
    ground = setting[0]
    found = find_table(ground, table)
    may_put = right_teller(setting, world, user, "put", found)
    if may_put(row) is not True:
        return "barred"
    return comes_to(found, rows_of(ground, world, table), row)


def check_put(word):
    """Refuses (NotLet, Taken, Full) what a put comes to, where it is not "put"."""
    if word == "barred":
        raise NotLet("the rules do not let the user put this row")
    if word == "taken":
        raise Taken("there is a row of this key")
    if word == "full":
        raise Full("the table has as many rows as it may have")


def check_row(table, thing):
    """Refuses (NoRow) anything that is no row of the table."""
    if not is_row(table, thing):
        raise NoRow("no row of the table")


def with_row(ground, world, name, row):
    """The world with one row more in the table of that name."""
    rows = rows_of(ground, world, name)
    return with_rows(ground, world, name, sorted([*rows, row]))


def put_row(setting, world, user, table, row):
    """The world with the row put by the user (NoRow, of anything that is no row; NotLet; Taken; Full)."""
    ground = setting[0]
    check_row(find_table(ground, table), row)
    check_put(tried(setting, world, user, table, row))
    return with_row(ground, world, table, row)


def fill_row(ground, world, table, row):
    """The world with the row, whatever the rules are (NoRow, of anything that is no row; Taken; Full)."""
    found = find_table(ground, table)
    check_row(found, row)
    check_put(comes_to(found, rows_of(ground, world, table), row))
    return with_row(ground, world, table, row)


def meant_rows(setting, world, user, table, condition):
    """The rows that the user sees, and may drop, and of which the condition tells True, a list (NoCondition)."""
    ground = setting[0]
    found = find_table(ground, table)
    columns = column_names(found)
    if not is_condition(ground, columns, condition):
        raise NoCondition("no condition over the table's columns")
    seen = seen_world(setting, world, user)
    may_drop = right_teller(setting, world, user, "drop", found)
    tell = make_teller(Scene(ground, seen, user), columns, condition)
    return [row for row in rows_of(ground, seen, table) if may_drop(row) is True and tell(row) is True]


def rows_but(rows, gone):
    """Those of the rows that are none of the other ones, a list."""
    return [row for row in rows if row not in gone]


def drop_rows(setting, world, user, table, condition):
    """The world without the rows that the user sees, may drop, and of which the condition tells True (NoCondition)."""
    ground = setting[0]
    gone = meant_rows(setting, world, user, table, condition)
    return with_rows(ground, world, table, rows_but(rows_of(ground, world, table), gone))


def turned(table, row, column, value):
    """The row with that value in that column."""
    return tuple([value if name == column else there for name, there in zip(column_names(table), row)])


def together(table, rows, others):
    """These rows and the others, a rising list (Taken, where two would have one key)."""
    if table[1] == 0:
        # Without a key alike rows come to one.
        return sorted(set(rows) | set(others))
    both = sorted([*rows, *others])
    if not is_rising([key_of(table, row) for row in both]):
        raise Taken("two rows would have one key")
    return both


def turn_rows(setting, world, user, table, condition, column, value):
    """The world with that value in that column of the rows that drop_rows would drop.

    Refused with NoCondition; NoRow, of anything that is no value of the column; NotLet; Taken.
    """
    ground = setting[0]
    found = find_table(ground, table)
    old = meant_rows(setting, world, user, table, condition)
    if not is_value(found[2][column_names(found).index(column)], value):
        raise NoRow("no value of the column")
    new = [turned(found, row, column, value) for row in old]
    may_put = right_teller(setting, world, user, "put", found)
    if not all([may_put(row) is True for row in new]):
        raise NotLet("the rules do not let the user put one of the new rows")
    kept = rows_but(rows_of(ground, world, table), old)
    return with_rows(ground, world, table, together(found, kept, new))


def all_tries(ground):
    """All tries of a ground, table by table, rows rising (TooMany)."""
    check_few_rows(ground, MOST_ROWS)
    return [("try", table[0], row) for table in ground for row in possible_rows(table)]


def try_parting(setting, user, world, other):
    """The first try that comes to one thing in a world and to another in the other one, or None (TooMany)."""
    for one in all_tries(setting[0]):
        word, table, row = one
        if tried(setting, world, user, table, row) != tried(setting, other, user, table, row):
            return one
    return None
