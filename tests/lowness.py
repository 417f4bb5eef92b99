"""Point 16 as a look at an ask: what about it is not put low."""

from rowveil.asks import plain_head
from tests.making import asks_in


def columns_in(condition):
    """The columns here that a condition names."""
    word, *behind = condition
    if word == "has":
        return {behind[1]}
    if word in ("not", "and", "or"):
        return set().union(*[columns_in(part) for part in behind])
    return {part for part in behind if isinstance(part, str)}


def faults(ground, ask):
    """Each where that stands as point 16 says that none does."""
    found = []
    for part in asks_in(ask):
        if part[0] != "where":
            continue
        below, condition = part[1:]
        if below[0] in ("keep", "named", "both", "less") or condition[0] == "and":
            found.append(part)
        if below[0] == "pairs":
            columns = columns_in(condition)
            sides = [set(plain_head(ground, side)) for side in below[1:]]
            if not columns & sides[0] or not columns & sides[1]:
                found.append(part)
    return found


def seals_in(ask):
    """All seals of an ask, from the left."""
    return [part for part in asks_in(ask) if part[0] == "seal"]


def words_in(ask):
    """The words of all asks within an ask."""
    return {part[0] for part in asks_in(ask)}
