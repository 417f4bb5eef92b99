"""Conditions and asks written as texts, and read from them."""

from rowveil.conditions import MOST_CONDITIONS, MOST_VALUES
from rowveil.errors import NoText
from rowveil.heads import MOST_PAIRS, MOST_PARTS
from rowveil.kinds import are_unlike, is_name, written_number

MOST_BRACKETS = 20

# How close words bind what stands beside them; all others stand alone.
BINDING = {"or": 0, "and": 1}
ALONE = 2


def yes_text(condition):
    """Of ("yes",)."""
    return "yes"


def equal_text(condition):
    """Of ("is", column, value) and ("same", column, other)."""
    return f"{condition[1]} = {condition[2]}"


def below_text(condition):
    """Of ("below", column, value)."""
    return f"{condition[1]} < {condition[2]}"


def column_text(condition):
    """Of ("mine", column), ("empty", column) and ("loud", column)."""
    return f"{condition[1]} {condition[0]}"


def has_text(condition):
    """Of ("has", table, column, other, condition)."""
    word, table, column, other, inner = condition
    return f"has {table} {column} {other} ( {condition_text(inner)} )"


def not_text(condition):
    """Of ("not", condition)."""
    return f"not {bound_text(condition[1], ALONE)}"


def joined_text(condition):
    """Of ("and", condition, condition) and ("or", condition, condition)."""
    word, left, right = condition
    binding = BINDING[word]
    # It is read from the left, so of the same word only the left one needs no brackets.
    return f"{bound_text(left, binding)} {word} {bound_text(right, binding + 1)}"


CONDITION_TEXTS = {
    "yes": yes_text,
    "is": equal_text,
    "below": below_text,
    "same": equal_text,
    "mine": column_text,
    "empty": column_text,
    "loud": column_text,
    "has": has_text,
    "not": not_text,
    "and": joined_text,
    "or": joined_text,
}


def bound_text(condition, least):
    """The text of a condition beside a word: in brackets, where it binds less close than is needed there."""
    text = condition_text(condition)
    return f"( {text} )" if BINDING.get(condition[0], ALONE) < least else text


def condition_text(condition):
    """The text of a condition."""
    write = CONDITION_TEXTS[condition[0]]
    return write(condition)


def first_text(ask):
    """Of ("rows", table) and ("view", name)."""
    return f"{ask[0]} {ask[1]}"


def where_text(ask):
    """Of ("where", ask, condition)."""
    return f"{ask_text(ask[1])} | where {condition_text(ask[2])}"


def names_text(ask):
    """Of ("keep", ask, names) and ("named", ask, names)."""
    names = ",".join(ask[2])
    return f"{ask_text(ask[1])} | {ask[0]} {names}"


def count_text(ask):
    """Of ("count", ask, name)."""
    return f"{ask_text(ask[1])} | count {ask[2]}"


def seal_text(ask):
    """Of ("seal", ask)."""
    return f"{ask_text(ask[1])} | seal"


def two_text(ask):
    """Of ("pairs", ask, ask), ("both", ask, ask) and ("less", ask, ask)."""
    return f"( {ask_text(ask[1])} {ask[0]} {ask_text(ask[2])} )"


ASK_TEXTS = {
    "rows": first_text,
    "view": first_text,
    "where": where_text,
    "keep": names_text,
    "named": names_text,
    "count": count_text,
    "seal": seal_text,
    "pairs": two_text,
    "both": two_text,
    "less": two_text,
}


def ask_text(ask):
    """The text of an ask."""
    write = ASK_TEXTS[ask[0]]
    return write(ask)


class Reader:
    """The words of a text, read from the left."""

    def __init__(self, words):
        self.words = words
        self.place = 0

    def ahead(self):
        """The next word, which is not taken; None at the end."""
        return self.words[self.place] if self.place < len(self.words) else None

    def take(self):
        """The next word (NoText, at the end)."""
        word = self.ahead()
        if word is None:
            raise NoText("the text ends too soon")
        self.place += 1
        return word

    def takes(self, word):
        """Takes the next word where it is this one; tells whether it is."""
        if self.ahead() != word:
            return False
        self.place += 1
        return True

    def take_this(self, word):
        """Takes this word (NoText, where another one stands there)."""
        if not self.takes(word):
            raise NoText(f"no {word} where one must stand")

    def take_name(self):
        """The next word, a name (NoText)."""
        word = self.take()
        if not is_name(word):
            raise NoText("no name where one must stand")
        return word

    def take_number(self, most):
        """The number from 0 to most that the next word is (NoText)."""
        number = written_number(self.take(), most)
        if number is None:
            raise NoText("no number where one must stand")
        return number

    def take_names(self):
        """The unlike names, a tuple, that the next word is made of (NoText)."""
        names = self.take().split(",")
        if not all([is_name(name) for name in names]) or not are_unlike(names):
            raise NoText("no unlike names where some must stand")
        return tuple(names)


class Bounds:
    """How much of one condition, or of one ask, has been read, and how much there may be."""

    def __init__(self, most):
        self.most = most
        self.parts = 0
        self.pairs = 0
        self.brackets = 0
        self.within_has = False

    def count_part(self):
        """Takes note of one part more (NoText)."""
        self.parts += 1
        if self.parts > self.most:
            raise NoText("too many parts")

    def count_pair(self):
        """Takes note of one pairs more (NoText)."""
        self.pairs += 1
        if self.pairs > MOST_PAIRS:
            raise NoText("too many pairs")

    def enter_bracket(self):
        """Takes note of a bracket around all that follows, up to leave_bracket (NoText)."""
        self.brackets += 1
        if self.brackets > MOST_BRACKETS:
            raise NoText("too many brackets within one another")

    def leave_bracket(self):
        """The bracket that was entered last ends."""
        self.brackets -= 1

    def enter_has(self):
        """Takes note of a has around all that follows, up to leave_has (NoText)."""
        if self.within_has:
            raise NoText("a has within a has")
        self.within_has = True

    def leave_has(self):
        """The has ends."""
        self.within_has = False


def take_or(reader, bounds):
    """A condition, whatever it is."""
    condition = take_and(reader, bounds)
    while reader.takes("or"):
        bounds.count_part()
        condition = ("or", condition, take_and(reader, bounds))
    return condition


def take_and(reader, bounds):
    """A condition that or does not bind."""
    condition = take_alone(reader, bounds)
    while reader.takes("and"):
        bounds.count_part()
        condition = ("and", condition, take_alone(reader, bounds))
    return condition


def take_alone(reader, bounds):
    """A condition that neither or nor and binds."""
    if reader.takes("("):
        return take_bracket(reader, bounds)
    bounds.count_part()
    if reader.takes("not"):
        return ("not", take_alone(reader, bounds))
    if reader.takes("has"):
        return take_has(reader, bounds)
    if reader.takes("yes"):
        return ("yes",)
    return take_about_column(reader)


def take_bracket(reader, bounds):
    """The condition within a bracket."""
    bounds.enter_bracket()
    condition = take_or(reader, bounds)
    reader.take_this(")")
    bounds.leave_bracket()
    return condition


def take_has(reader, bounds):
    """A has, behind its word."""
    bounds.enter_has()
    table = reader.take_name()
    column = reader.take_name()
    other = reader.take_name()
    reader.take_this("(")
    condition = take_or(reader, bounds)
    reader.take_this(")")
    bounds.leave_has()
    return ("has", table, column, other, condition)


def take_about_column(reader):
    """A condition that begins with a column."""
    column = reader.take_name()
    word = reader.take()
    if word in ("mine", "empty", "loud"):
        return (word, column)
    if word == "<":
        return ("below", column, reader.take_number(MOST_VALUES["below"]))
    if word != "=":
        raise NoText("no word that may stand behind a column")
    if is_name(reader.ahead()):
        return ("same", column, reader.take_name())
    return ("is", column, reader.take_number(MOST_VALUES["is"]))


def take_condition(reader):
    """A condition, up to the first word that does not belong to it."""
    return take_or(reader, Bounds(MOST_CONDITIONS))


def take_ask(reader, bounds):
    """An ask, up to the first word that does not belong to it."""
    ask = take_first(reader, bounds)
    while reader.takes("|"):
        bounds.count_part()
        ask = take_step(reader, ask)
    return ask


def take_first(reader, bounds):
    """What an ask begins with: one that stands in no other one's text but behind a bracket."""
    bounds.count_part()
    word = reader.take()
    if word in ("rows", "view"):
        return (word, reader.take_name())
    if word != "(":
        raise NoText("no word that an ask begins with")
    left = take_ask(reader, bounds)
    between = reader.take()
    if between not in ("pairs", "both", "less"):
        raise NoText("no word that may stand between two asks")
    if between == "pairs":
        bounds.count_pair()
    right = take_ask(reader, bounds)
    reader.take_this(")")
    return (between, left, right)


def take_step(reader, ask):
    """What becomes of an ask by the words behind it."""
    word = reader.take()
    if word == "where":
        return (word, ask, take_condition(reader))
    if word in ("keep", "named"):
        return (word, ask, reader.take_names())
    if word == "count":
        return (word, ask, reader.take_name())
    if word != "seal":
        raise NoText("no word that may stand behind an ask")
    return (word, ask)


def reader_of(thing):
    """A reader of a text (NoText, of anything else)."""
    if not isinstance(thing, str):
        raise NoText("no text")
    # Where blanks are not single ones there are empty words, which are none of any condition or ask.
    return Reader(thing.split(" "))


def check_end(reader):
    """Refuses (NoText) words that are left."""
    if reader.ahead() is not None:
        raise NoText("words behind the end")


def read_condition(thing):
    """The condition that is so written (NoText, of anything else)."""
    reader = reader_of(thing)
    condition = take_condition(reader)
    check_end(reader)
    return condition


def read_ask(thing):
    """The ask that is so written (NoText, of anything else)."""
    reader = reader_of(thing)
    ask = take_ask(reader, Bounds(MOST_PARTS))
    check_end(reader)
    return ask
