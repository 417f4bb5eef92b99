"""Plain asks: their heads, their answers, and what they hear."""

from rowveil.conditions import is_plain_condition
from rowveil.errors import NoAsk
from rowveil.grounds import column_names, find_table
from rowveil.kinds import is_name, is_names, word_of
from rowveil.telling import Scene, make_teller

MOST_PAIRS = 2

# How long the tuple of each plain ask is, its word counted.
LENGTHS = {
    "rows": 2, "where": 3, "keep": 3, "named": 3, "pairs": 3, "both": 3, "less": 3, "count": 3, "seal": 2,
}


class Check:
    """One ask that is looked through: its ground, and the pairs in it so far."""

    def __init__(self, ground):
        self.ground = ground
        self.pairs = 0


def rows_head(check, ask):
    """Of ("rows", table)."""
    table = find_table(check.ground, ask[1])
    if table is None:
        raise NoAsk("rows of no table of the ground")
    return column_names(table)


def where_head(check, ask):
    """Of ("where", ask, condition)."""
    head = find_head(check, ask[1])
    if not is_plain_condition(check.ground, head, ask[2]):
        raise NoAsk("where without a plain condition over its head")
    return head


def keep_head(check, ask):
    """Of ("keep", ask, names)."""
    head = find_head(check, ask[1])
    names = ask[2]
    if not is_names(names) or not all([name in head for name in names]):
        raise NoAsk("keep without unlike names of its head")
    return names


def named_head(check, ask):
    """Of ("named", ask, names)."""
    head = find_head(check, ask[1])
    names = ask[2]
    if not is_names(names) or len(names) != len(head):
        raise NoAsk("named without as many unlike names as its head has")
    return names


def pairs_head(check, ask):
    """Of ("pairs", ask, ask)."""
    check.pairs += 1
    if check.pairs > MOST_PAIRS:
        raise NoAsk("too many pairs")
    left = find_head(check, ask[1])
    right = find_head(check, ask[2])
    if any([name in left for name in right]):
        raise NoAsk("pairs with a name in common")
    return left + right


def shared_head(check, ask):
    """Of ("both", ask, ask) and ("less", ask, ask)."""
    left = find_head(check, ask[1])
    right = find_head(check, ask[2])
    if left != right:
        raise NoAsk("both or less of unlike heads")
    return left


def count_head(check, ask):
    """Of ("count", ask, name)."""
    find_head(check, ask[1])
    if not is_name(ask[2]):
        raise NoAsk("count without a name")
    return (ask[2],)


def seal_head(check, ask):
    """Of ("seal", ask)."""
    return find_head(check, ask[1])


HEADS = {
    "rows": rows_head,
    "where": where_head,
    "keep": keep_head,
    "named": named_head,
    "pairs": pairs_head,
    "both": shared_head,
    "less": shared_head,
    "count": count_head,
    "seal": seal_head,
}


def has_form(thing):
    """Whether it is a tuple of a plain ask's word and as many things as stand behind that."""
    word = word_of(thing)
    return word in LENGTHS and len(thing) == LENGTHS[word]


def find_head(check, thing):
    """The head of an ask within the one that is looked through (NoAsk)."""
    if not has_form(thing):
        raise NoAsk("no plain ask")
    head_of = HEADS[thing[0]]
    return head_of(check, thing)


def plain_head(ground, thing):
    """The head of a plain ask of the ground (NoAsk, of anything else)."""
    return find_head(Check(ground), thing)


def rows_answer(scene, ask):
    """Of ("rows", table)."""
    return scene.heads[ask[1]], list(scene.rows[ask[1]])


def where_answer(scene, ask):
    """Of ("where", ask, condition)."""
    head, rows = find_answer(scene, ask[1])
    tell = make_teller(scene, head, ask[2])
    return head, [row for row in rows if tell(row) is True]


def keep_answer(scene, ask):
    """Of ("keep", ask, names)."""
    head, rows = find_answer(scene, ask[1])
    places = [head.index(name) for name in ask[2]]
    return ask[2], sorted({tuple([row[place] for place in places]) for row in rows})


def named_answer(scene, ask):
    """Of ("named", ask, names)."""
    head, rows = find_answer(scene, ask[1])
    return ask[2], rows


def pairs_answer(scene, ask):
    """Of ("pairs", ask, ask)."""
    left_head, left = find_answer(scene, ask[1])
    right_head, right = find_answer(scene, ask[2])
    return left_head + right_head, [row + other for row in left for other in right]


def both_answer(scene, ask):
    """Of ("both", ask, ask)."""
    head, left = find_answer(scene, ask[1])
    same_head, right = find_answer(scene, ask[2])
    return head, sorted(set(left) | set(right))


def less_answer(scene, ask):
    """Of ("less", ask, ask)."""
    head, left = find_answer(scene, ask[1])
    same_head, right = find_answer(scene, ask[2])
    return head, sorted(set(left) - set(right))


def count_answer(scene, ask):
    """Of ("count", ask, name)."""
    head, rows = find_answer(scene, ask[1])
    return (ask[2],), [(len(rows),)]


def seal_answer(scene, ask):
    """Of ("seal", ask)."""
    return find_answer(scene, ask[1])


ANSWERS = {
    "rows": rows_answer,
    "where": where_answer,
    "keep": keep_answer,
    "named": named_answer,
    "pairs": pairs_answer,
    "both": both_answer,
    "less": less_answer,
    "count": count_answer,
    "seal": seal_answer,
}


def find_answer(scene, ask):
    """The answer of an ask in a scene: its head, and its rows, a rising list."""
    answer_of = ANSWERS[ask[0]]
    return answer_of(scene, ask)


def plain_answer(ground, world, thing):
    """The answer of a plain ask (NoAsk, of anything else)."""
    plain_head(ground, thing)
    return find_answer(Scene(ground, world, 0), thing)


def plain_heard(ground, world, thing):
    """What a plain ask hears, a rising list of tuples (column, value) (NoAsk, of anything else)."""
    plain_head(ground, thing)
    scene = Scene(ground, world, 0)
    find_answer(scene, thing)
    return scene.all_heard()
