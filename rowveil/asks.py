"""The answers of asks in a scene; of plain asks their heads, their answers, and what they hear."""

from rowveil.conditions import is_plain_condition
from rowveil.heads import Check, find_head
from rowveil.telling import Scene, make_teller


def plain_head(ground, thing):
    """The head of a plain ask of the ground (NoAsk, of anything else)."""
    return find_head(Check(ground, is_plain_condition, {}, None), thing)


def rows_answer(scene, ask):
    """Of ("rows", table)."""
    return scene.heads[ask[1]], list(scene.rows[ask[1]])


def view_answer(scene, ask):
    """Of ("view", name)."""
    name, inner, mode, users = scene.views[ask[1]]
    # Within a scene that has all rows there is no other one: own eyes stay own, whatever is within.
    if mode == "own" and scene.whole is not None:
        return find_answer(scene.whole, inner)
    return find_answer(scene, inner)


def where_answer(scene, ask):
    """Of ("where", ask, condition)."""
    head, rows = find_answer(scene, ask[1])
    tell = make_teller(scene, head, ask[2])
    return head, [row for row in rows if tell(row) is True]


def keep_answer(scene, ask):
    """Of ("keep", ask, names)."""
    head, rows = find_answer(scene, ask[1])
    places = [head.index(name) for name in ask[2]]
    return ask[2], sorted({tuple([row[place] for place in places]) for row in rows})


def named_answer(scene, ask):
    """Of ("named", ask, names)."""
    head, rows = find_answer(scene, ask[1])
    return ask[2], rows


def pairs_answer(scene, ask):
    """Of ("pairs", ask, ask)."""
    left_head, left = find_answer(scene, ask[1])
    right_head, right = find_answer(scene, ask[2])
    return left_head + right_head, [row + other for row in left for other in right]


def both_answer(scene, ask):
    """Of ("both", ask, ask)."""
    head, left = find_answer(scene, ask[1])
    same_head, right = find_answer(scene, ask[2])
    return head, sorted(set(left) | set(right))


def less_answer(scene, ask):
    """Of ("less", ask, ask)."""
    head, left = find_answer(scene, ask[1])
    same_head, right = find_answer(scene, ask[2])
    return head, sorted(set(left) - set(right))


def count_answer(scene, ask):
    """Of ("count", ask, name)."""
    head, rows = find_answer(scene, ask[1])
    return (ask[2],), [(len(rows),)]


def seal_answer(scene, ask):
    """Of ("seal", ask)."""
    return find_answer(scene, ask[1])


ANSWERS = {
    "rows": rows_answer,
    "view": view_answer,
    "where": where_answer,
    "keep": keep_answer,
    "named": named_answer,
    "pairs": pairs_answer,
    "both": both_answer,
    "less": less_answer,
    "count": count_answer,
    "seal": seal_answer,
}


def find_answer(scene, ask):
    """The answer of an ask in a scene: its head, and its rows, a rising list."""
    answer_of = ANSWERS[ask[0]]
    return answer_of(scene, ask)


def plain_answer(ground, world, thing):
    """The answer of a plain ask (NoAsk, of anything else)."""
    plain_head(ground, thing)
    return find_answer(Scene(ground, world, 0), thing)


def plain_heard(ground, world, thing):
    """What a plain ask hears, a rising list of tuples (column, value) (NoAsk, of anything else)."""
    plain_head(ground, thing)
    scene = Scene(ground, world, 0)
    find_answer(scene, thing)
    return scene.all_heard()
