"""Grounds, their tables, columns and rows, and the worlds of a ground."""

from rowveil.errors import TooMany
from rowveil.kinds import are_unlike, is_name, is_rising, is_whole, is_whole_within

MOST_ROWS = 8
MOST_IN_TABLE = 12
MOST_TABLES = 4
MOST_COLUMNS = 4
LARGEST_SIZE = 9
EMPTY = -1


def is_column(thing):
    """Whether it is a column."""
    if not isinstance(thing, tuple) or len(thing) != 3:
        return False
    name, size, may_be_empty = thing
    return is_name(name) and is_whole_within(size, 1, LARGEST_SIZE) and isinstance(may_be_empty, bool)


def are_columns(thing):
    """Whether it is a tuple of columns that a table may have."""
    if not isinstance(thing, tuple) or not 1 <= len(thing) <= MOST_COLUMNS:
        return False
    if not all([is_column(column) for column in thing]):
        return False
    return are_unlike([name for name, size, may_be_empty in thing])


def is_table(thing):
    """Whether it is a table."""
    if not isinstance(thing, tuple) or len(thing) != 3:
        return False
    name, key, columns = thing
    if not is_name(name) or not are_columns(columns) or not is_whole_within(key, 0, len(columns)):
        return False
    return not any([may_be_empty for column, size, may_be_empty in columns[:key]])


def is_ground(thing):
    """Whether it is a ground."""
    if not isinstance(thing, tuple) or not 1 <= len(thing) <= MOST_TABLES:
        return False
    if not all([is_table(table) for table in thing]):
        return False
    return is_rising([table[0] for table in thing])


def find_table(ground, name):
    """The table of that name; None of anything that is no table's name."""
    for table in ground:
        if table[0] == name:
            return table
    return None


def column_names(table):
    """The names of a table's columns, a tuple."""
    return tuple([column[0] for column in table[2]])


def column_values(column):
    """All values of a column, a rising list."""
    name, size, may_be_empty = column
    return list(range(EMPTY if may_be_empty else 0, size))


def is_value(column, thing):
    """Whether it is a value of the column."""
    return is_whole(thing) and thing in column_values(column)


def is_row(table, thing):
    """Whether it is a row of the table."""
    columns = table[2]
    if not isinstance(thing, tuple) or len(thing) != len(columns):
        return False
    return all([is_value(column, value) for column, value in zip(columns, thing)])


def key_of(table, row):
    """What no two rows of the table have in common."""
    key = table[1]
    # Without key columns only rows that are alike throughout bar one another.
    return row[:key] if key > 0 else row


def are_rows(table, thing):
    """Whether it is what a world may have for the table."""
    if not isinstance(thing, tuple) or len(thing) > MOST_IN_TABLE:
        return False
    if not all([is_row(table, row) for row in thing]):
        return False
    # The key comes first in a row, so of rising rows those of one key stand side by side.
    return all([
        row < following and key_of(table, row) != key_of(table, following)
        for row, following in zip(thing, thing[1:])
    ])


def is_world(ground, thing):
    """Whether it is a world of the ground."""
    if not isinstance(thing, tuple) or len(thing) != len(ground):
        return False
    return all([are_rows(table, rows) for table, rows in zip(ground, thing)])


def possible_rows(table):
    """All rows that the table may have, a rising list."""
    rows = [()]
    for column in table[2]:
        rows = [(*row, value) for row in rows for value in column_values(column)]
    return rows


def count_rows(columns):
    """How many rows over these columns are possible."""
    many = 1
    for column in columns:
        many *= len(column_values(column))
    return many


def all_contents(table):
    """All tuples of rows that a world may have for the table, a rising list."""
    contents = [()]
    for row in possible_rows(table):
        longer = [(*rows, row) for rows in contents if may_follow(table, rows, row)]
        contents = contents + longer
    return sorted(contents)


def may_follow(table, rows, row):
    """Whether the row may stand behind these rows, all of which are less."""
    if not rows:
        return True
    return len(rows) < MOST_IN_TABLE and key_of(table, rows[-1]) != key_of(table, row)


def check_few_rows(ground, most):
    """Refuses (TooMany) a ground of which more than so many rows are possible."""
    if sum([count_rows(table[2]) for table in ground]) > most:
        raise TooMany(f"more than {most} rows are possible")


def all_worlds(ground, *, most=MOST_ROWS):
    """All worlds of a ground with at most so many possible rows, a rising list."""
    check_few_rows(ground, most)
    worlds = [()]
    for table in ground:
        contents = all_contents(table)
        worlds = [(*world, rows) for world in worlds for rows in contents]
    return worlds


def count_contents(table):
    """How many tuples of rows a world may have for the table."""
    name, key, columns = table
    keyed = columns[:key] if key > 0 else columns
    keys = count_rows(keyed)
    rows_of_key = count_rows(columns[len(keyed):])
    total = 0
    ways = 1
    for many in range(MOST_IN_TABLE + 1):
        total += ways
        # One row more: another key of those left, with any row of that key; their order makes no difference.
        ways = ways * (keys - many) // (many + 1) * rows_of_key
    return total


def count_worlds(ground):
    """How many worlds the ground has."""
    many = 1
    for table in ground:
        many *= count_contents(table)
    return many
