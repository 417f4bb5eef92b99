"""How conditions are looked at: what they tell of a row, and what the loud ones hear.

A condition is made into a function of a row, its teller, once for all rows that it is looked at for.
"""

from rowveil.grounds import EMPTY, column_names


class Scene:
    """The rows that are there, for a user, and what has been heard of them so far.

    Where these are not all rows, whole is the scene that has all: what views with own eyes look at.
    """

    def __init__(self, ground, world, user, views=(), whole=None):
        self.heads = {table[0]: column_names(table) for table in ground}
        self.rows = {table[0]: rows for table, rows in zip(ground, world)}
        self.user = user
        self.views = {view[0]: view for view in views}
        self.whole = whole
        self.heard = {}

    def hear(self, column, value):
        """Takes note of what a loud condition was looked at for; tells what that tells."""
        self.heard[(column, value)] = True
        return True

    def all_heard(self):
        """All that has been heard, a rising list of tuples (column, value)."""
        return sorted(self.heard.keys())


class Finder:
    """Looks for a row of a table by the value in one place and a condition.

    What is found hangs on the value alone, and so does what is heard: so it looks once for each value.
    """

    def __init__(self, rows, place, teller):
        self.rows = rows
        self.place = place
        self.teller = teller
        self.found = {}

    def finds(self, value):
        """Whether there is such a row."""
        if value not in self.found:
            self.found[value] = value != EMPTY and self.looks(value)
        return self.found[value]

    def looks(self, value):
        """Looks at the rows with the value, up to the first of which the condition tells True."""
        tell = self.teller
        for row in self.rows:
            if row[self.place] == value and tell(row) is True:
                return True
        return False


def yes_teller(scene, columns):
    """Of ("yes",)."""
    return lambda row: True


def is_teller(scene, columns, column, number):
    """Of ("is", column, number)."""
    place = columns.index(column)
    return lambda row: None if row[place] == EMPTY else row[place] == number


def below_teller(scene, columns, column, number):
    """Of ("below", column, number)."""
    place = columns.index(column)
    return lambda row: None if row[place] == EMPTY else row[place] < number


def same_teller(scene, columns, column, other):
    """Of ("same", column, other)."""
    place = columns.index(column)
    other_place = columns.index(other)

    def tell(row):
        if row[place] == EMPTY or row[other_place] == EMPTY:
            return None
        return row[place] == row[other_place]

    return tell


def mine_teller(scene, columns, column):
    """Of ("mine", column)."""
    return is_teller(scene, columns, column, scene.user)


def empty_teller(scene, columns, column):
    """Of ("empty", column)."""
    place = columns.index(column)
    return lambda row: row[place] == EMPTY


def loud_teller(scene, columns, column):
    """Of ("loud", column)."""
    place = columns.index(column)
    return lambda row: scene.hear(column, row[place])


def has_teller(scene, columns, table, column, other, condition):
    """Of ("has", table, column, other, condition)."""
    place = columns.index(column)
    head = scene.heads[table]
    finder = Finder(scene.rows[table], head.index(other), make_teller(scene, head, condition))
    return lambda row: finder.finds(row[place])


def not_teller(scene, columns, condition):
    """Of ("not", condition)."""
    inner = make_teller(scene, columns, condition)

    def tell(row):
        told = inner(row)
        return None if told is None else not told

    return tell


def and_teller(scene, columns, left, right):
    """Of ("and", left, right)."""
    first = make_teller(scene, columns, left)
    second = make_teller(scene, columns, right)

    def tell(row):
        told = first(row)
        return second(row) if told is True else told

    return tell


def or_teller(scene, columns, left, right):
    """Of ("or", left, right)."""
    first = make_teller(scene, columns, left)
    second = make_teller(scene, columns, right)

    def tell(row):
        told = first(row)
        if told is True:
            return True
        other = second(row)
        # What is not known on the left stays so, unless the right one settles it.
        return other if told is False or other is True else None

    return tell


TELLERS = {
    "yes": yes_teller,
    "is": is_teller,
    "below": below_teller,
    "same": same_teller,
    "mine": mine_teller,
    "empty": empty_teller,
    "loud": loud_teller,
    "has": has_teller,
    "not": not_teller,
    "and": and_teller,
    "or": or_teller,
}


def make_teller(scene, columns, condition):
    """The function that tells of a row over these columns what the condition tells, in a scene."""
    word, *behind = condition
    make = TELLERS[word]
    return make(scene, columns, *behind)
