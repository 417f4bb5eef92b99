"""Stores: rows under rules and views, which users write and ask, begun and rolled back, with runs of deeds."""

from rowveil.asked import answer
from rowveil.deeds import are_deeds, do_deed
from rowveil.errors import (
    InUse, NoDeeds, NoGround, NoneOpen, NoRule, NoTable, NotThere, NoUser, NoView, TooDeep, TooMany, Twice,
)
from rowveil.grounds import find_table, is_ground, is_row
from rowveil.learning import fitting_worlds, known_among
from rowveil.rules import MOST_RULES, is_rule, is_user
from rowveil.views import MOST_VIEWS, all_facts, has_view, view_facts
from rowveil.writing import drop_rows, fill_row, meant_rows, put_row, rows_but, rows_of, turn_rows, with_rows

MOST_BEGINS = 5


def check_user(thing):
    """Refuses (NoUser) anything that is no user."""
    if not is_user(thing):
        raise NoUser("no user")


def check_table(ground, thing):
    """Refuses (NoTable) anything that is no name of a table of the ground."""
    if find_table(ground, thing) is None:
        raise NoTable("no table of the ground")


class Store:
    """A ground with rules, views and rows.

    What is held is never changed, but replaced, so that it is undone by what was held ahead.
    """

    def __init__(self, ground):
        if not is_ground(ground):
            raise NoGround("no ground")
        self.ground = ground
        # The rules, rising, the views and the world, tuples.
        self.held = ((), (), tuple([() for table in ground]))
        # What was held at each begin that is open.
        self.begins = ()
        # Tuples (user, ask, answer) since the last deed.
        self.asked = []
        self.noted = []
        self.running = 0

    def setting(self):
        """The ground with the rules and views of now."""
        return self.ground, list(self.held[0]), list(self.held[1])

    def settle(self, rules, views, world):
        """Ends a deed: these are held from now on, and what was asked ahead of it is forgotten."""
        self.held = (tuple(rules), tuple(views), world)
        self.asked = []

    def settle_world(self, world):
        """Ends a deed that has changed rows only."""
        rules, views, old_world = self.held
        self.settle(rules, views, world)

    def put_rule(self, rule):
        """Puts a rule (NoRule, of anything that is none; Twice; TooMany, beyond ten)."""
        rules, views, world = self.held
        if not is_rule(self.ground, rule):
            raise NoRule("no rule over the ground")
        if rule in rules:
            raise Twice("the rule stands there already")
        if len(rules) >= MOST_RULES:
            raise TooMany("no more rules are taken on")
        self.settle(sorted([*rules, rule]), views, world)

    def strike_rule(self, rule):
        """Strikes a rule (NotThere, of anything that is none of the store's)."""
        rules, views, world = self.held
        # What has a truth in a number's place is no rule, but Python takes it for the same.
        if not is_rule(self.ground, rule) or rule not in rules:
            raise NotThere("no such rule")
        self.settle([other for other in rules if other != rule], views, world)

    def put_view(self, view):
        """Puts a view behind those that stand (NoView, of anything that is none; Twice; TooMany, beyond four)."""
        rules, views, world = self.held
        known = all_facts(self.ground, views)
        if view_facts(self.ground, known, view) is None:
            raise NoView("no view over the ground and the views that stand")
        if view[0] in known:
            raise Twice("a view of this name stands there already")
        if len(views) >= MOST_VIEWS:
            raise TooMany("no more views are taken on")
        self.settle(rules, [*views, view], world)

    def take_view(self, name):
        """Takes the view of that name away (NotThere, of anything that names none; InUse)."""
        rules, views, world = self.held
        others = [view for view in views if view[0] != name]
        if len(others) == len(views):
            raise NotThere("no view of this name")
        if any([has_view(view[1], name) for view in others]):
            raise InUse("another view's ask has it")
        self.settle(rules, others, world)

    def fill(self, table, row):
        """Fills in a row, whatever the rules are (NoTable, of anything; NoRow, of anything; Taken; Full)."""
        check_table(self.ground, table)
        self.settle_world(fill_row(self.ground, self.held[2], table, row))

    def clear_row(self, table, row):
        """Clears a row, whatever the rules are (NoTable, of anything; NotThere, of anything)."""
        check_table(self.ground, table)
        rows = rows_of(self.ground, self.held[2], table)
        if not is_row(find_table(self.ground, table), row) or row not in rows:
            raise NotThere("no such row")
        self.settle_world(with_rows(self.ground, self.held[2], table, rows_but(rows, [row])))

    def put(self, user, table, row):
        """A user puts a row (NoUser, NoTable and NoRow, of anything; NotLet; Taken; Full)."""
        check_user(user)
        check_table(self.ground, table)
        self.settle_world(put_row(self.setting(), self.held[2], user, table, row))

    def drop(self, user, table, condition):
        """A user drops rows; told is how many (NoUser, NoTable and NoCondition, of anything)."""
        check_user(user)
        check_table(self.ground, table)
        meant = meant_rows(self.setting(), self.held[2], user, table, condition)
        self.settle_world(drop_rows(self.setting(), self.held[2], user, table, condition))
        return len(meant)

    def turn(self, user, table, condition, column, value):
        """A user turns rows; told is how many (NoUser, NoTable, NoCondition and NoRow, of anything; NotLet; Taken)."""
        check_user(user)
        check_table(self.ground, table)
        meant = meant_rows(self.setting(), self.held[2], user, table, condition)
        self.settle_world(turn_rows(self.setting(), self.held[2], user, table, condition, column, value))
        return len(meant)

    def ask(self, user, thing):
        """What the user is answered (NoUser and NoAsk, of anything; NoRight)."""
        check_user(user)
        head, rows = answer(self.setting(), self.held[2], user, thing)
        # The rows that are told are the asker's own, who may change them.
        self.asked.append((user, thing, (head, list(rows))))
        return head, rows

    def begin(self):
        """Begins: what is done from now on can be rolled back (TooDeep, of a sixth open begin)."""
        if len(self.begins) >= MOST_BEGINS:
            raise TooDeep("no more begins are taken on")
        self.begins = (*self.begins, self.held)
        self.asked = []

    def last_begin(self):
        """What was held at the last open begin, which is not open any more then (NoneOpen)."""
        if len(self.begins) == 0:
            raise NoneOpen("no begin is open")
        *ahead, held = self.begins
        self.begins = tuple(ahead)
        return held

    def roll_back(self):
        """Undoes what was done since the last open begin (NoneOpen)."""
        rules, views, world = self.last_begin()
        self.settle(rules, views, world)

    def commit(self):
        """What was done since the last open begin stays, and belongs to the begin ahead (NoneOpen)."""
        self.last_begin()
        self.asked = []

    def all_rules(self):
        """The rules, a rising list."""
        return list(self.held[0])

    def all_views(self):
        """The views, a list."""
        return list(self.held[1])

    def all_rows(self):
        """The world."""
        return self.held[2]

    def open_begins(self):
        """How many begins are open."""
        return len(self.begins)

    def __len__(self):
        return len([row for rows in self.held[2] for row in rows])

    def __eq__(self, other):
        return isinstance(other, Store) and self.ground == other.ground and self.held == other.held

    def __str__(self):
        return f"{len(self.ground)} tables, {len(self.held[0])} rules, {len(self.held[1])} views, {len(self)} rows"

    def answered(self, user):
        """As asks_of, but with the store's own lists (NoUser, of anything)."""
        check_user(user)
        return [(ask, told) for asker, ask, told in self.asked if asker == user]

    def asks_of(self, user):
        """What the user asked and was answered since the last deed, tuples (ask, answer) (NoUser, of anything)."""
        return [(ask, (head, list(rows))) for ask, (head, rows) in self.answered(user)]

    def could_be(self, user):
        """How many worlds answer all that the user asked since the last deed so (NoUser, of anything; TooMany)."""
        return len(fitting_worlds(self.setting(), user, self.answered(user)))

    def known(self, user, secret):
        """What the user knows of a secret by what it asked (NoUser, of anything; TooMany; NoAsk, of anything)."""
        worlds = fitting_worlds(self.setting(), user, self.answered(user))
        return known_among(self.ground, self.held[2], worlds, secret)

    def run(self, deeds):
        """Does deeds one by one, all or none; tells what each told, a list (NoDeeds, of anything; as its deeds)."""
        if not are_deeds(deeds):
            raise NoDeeds("no list of deeds")
        held, begins, asked = self.held, self.begins, self.asked
        self.running += 1
        many = self.running
        self.noted.append(("in", many))
        told = None
        try:
            told = [do_deed(self, deed) for deed in deeds]
        finally:
            if told is None:
                self.held, self.begins, self.asked = held, begins, asked
            self.noted.append(("out", many))
            self.running -= 1
        return told

    def notes(self):
        """Both ends of each run, tuples ("in", k) and ("out", k), a list."""
        return list(self.noted)

    def runs_open(self):
        """How many runs are under way."""
        return self.running
