"""What a user can learn: which worlds are alike for it, and of a secret whether it is known, kept, or leaks."""

from rowveil.asked import scene_of
from rowveil.asks import find_answer, plain_answer, plain_head
from rowveil.grounds import all_worlds
from rowveil.rules import is_for
from rowveil.settings import seen_world
from rowveil.writing import all_tries, tried


def own_views(setting, user):
    """The asks of the views with own eyes that are for the user, in the list's order."""
    return [("view", name) for name, ask, mode, users in setting[2] if mode == "own" and is_for(users, user)]


def base_asks(setting, user):
    """The asks by whose answers the user learns all that it can by any asks."""
    return [("rows", table[0]) for table in setting[0]] + own_views(setting, user)


def some_tries(setting, tries):
    """All tries where they are to be looked at, else none (TooMany)."""
    return all_tries(setting[0]) if tries else []


def parting(setting, user, world, other):
    """The first base ask of the user that is not answered the same in two worlds, or None."""
    here = scene_of(setting, world, user)
    there = scene_of(setting, other, user)
    for ask in base_asks(setting, user):
        if find_answer(here, ask) != find_answer(there, ask):
            return ask
    return None


def told_by(setting, user, world, means):
    """What comes of asks and tries in a world, a tuple of one thing for each."""
    scene = scene_of(setting, world, user)
    told = []
    for one in means:
        if one[0] == "try":
            told.append(tried(setting, world, user, one[1], one[2]))
        else:
            told.append(tuple(find_answer(scene, one)[1]))
    return tuple(told)


def known_among(ground, world, worlds, secret):
    """("knows", rows) where the secret has the rows of this world in all those, else ("may", the first without).

    Refused with NoAsk, of anything that is no secret.
    """
    rows = plain_answer(ground, world, secret)[1]
    for other in worlds:
        if plain_answer(ground, other, secret)[1] != rows:
            return ("may", other)
    return ("knows", rows)


def learns(setting, user, world, secret, *, tries=False):
    """What the user knows of a secret in a world: ("knows", rows) or ("may", other) (TooMany, NoAsk)."""
    ground = setting[0]
    worlds = all_worlds(ground)
    plain_head(ground, secret)
    means = base_asks(setting, user) + some_tries(setting, tries)
    here = told_by(setting, user, world, means)
    alike = [other for other in worlds if told_by(setting, user, other, means) == here]
    return known_among(ground, world, alike, secret)


def fitting_worlds(setting, user, asked):
    """All worlds that answer each of the user's asks so; asked is a list of tuples (ask, answer) (TooMany)."""
    fitting = []
    for world in all_worlds(setting[0]):
        scene = scene_of(setting, world, user)
        if all([find_answer(scene, ask) == told for ask, told in asked]):
            fitting.append(world)
    return fitting


def secret_answers(ground, worlds, secret):
    """The rows that the secret has in each of the worlds, a list of tuples (NoAsk)."""
    plain_head(ground, secret)
    return [tuple(plain_answer(ground, world, secret)[1]) for world in worlds]


def answers_by_mark(marks, answers):
    """For each mark the answers that are had in the worlds that have it; one mark and one answer for each world."""
    found = {}
    for mark, rows in zip(marks, answers):
        had = found.setdefault(mark, {})
        had[rows] = True
    return found


def first_left_out(marks, answers):
    """The number of the first world in which an answer can be left out, and the first such answer; or None."""
    every = sorted(set(answers))
    found = answers_by_mark(marks, answers)
    for number, mark in enumerate(marks):
        left_out = [rows for rows in every if rows not in found[mark]]
        if left_out:
            return number, left_out[0]
    return None


def parting_places(told, other):
    """The places in which two tuples of the same length are not the same, a rising list."""
    return [place for place, (one, another) in enumerate(zip(told, other)) if one != another]


def first_hitting(lists, start, most):
    """The first rising list of at most so many places, from start on, that has one of each of these; or None."""
    if not lists:
        return []
    if most == 0:
        return None
    # The list that ends first is hit by none of the places behind its end.
    for place in range(start, min([places[-1] for places in lists]) + 1):
        found = first_hitting([places for places in lists if place not in places], place + 1, most - 1)
        if found is not None:
            return [place, *found]
    return None


def fewest_hitting(lists):
    """The fewest places that have one of each of these rising lists, none of them empty; of several the first."""
    most = 0
    found = None
    while found is None:
        most += 1
        found = first_hitting(lists, 0, most)
    return found


def kept(setting, user, secret, *, tries=False):
    """Whether a secret is kept from the user: ("kept",) or ("leaks", world, rows, asks) (TooMany, NoAsk)."""
    ground = setting[0]
    worlds = all_worlds(ground)
    answers = secret_answers(ground, worlds, secret)
    means = base_asks(setting, user) + some_tries(setting, tries)
    marks = [told_by(setting, user, world, means) for world in worlds]
    leak = first_left_out(marks, answers)
    if leak is None:
        return ("kept",)
    number, rows = leak
    parted = [parting_places(marks[number], mark) for mark, had in zip(marks, answers) if had == rows]
    return ("leaks", worlds[number], list(rows), [means[place] for place in fewest_hitting(parted)])


def numbered(things):
    """A number for each of the things, the same for those that are the same."""
    numbers = {}
    return [numbers.setdefault(thing, len(numbers)) for thing in things]


def choices(things, many):
    """All lists of so many of the things, in their order, the first ones first."""
    if many == 0:
        return [[]]
    return [[thing, *rest] for place, thing in enumerate(things) for rest in choices(things[place + 1:], many - 1)]


def rows_as_bits(ground, world):
    """A number with one bit for each row that the ground may have: set where the world has it."""
    rows = {table[0]: there for table, there in zip(ground, world)}
    bits = 0
    for place, (word, name, row) in enumerate(all_tries(ground)):
        if row in rows[name]:
            bits |= 1 << place
    return bits


def shown_by(setting, user, worlds, rule):
    """What of each world the user sees by this let rule alone, all must rules looked at, as bits."""
    ground, rules, views = setting
    musts = [other for other in rules if other[1] == "must"]
    alone = (ground, [rule, *musts], views)
    return [rows_as_bits(ground, seen_world(alone, world, user)) for world in worlds]


def is_kept(others, shown, answers, many):
    """Whether in each world none of so many answers can be left out.

    It is seen by what other means tell of each world, and by what some let rules show of it; answers are numbers.
    """
    seen = [0 for other in others]
    # What several let rules show is what each of them shows alone, taken together.
    for bits_of_rule in shown:
        seen = [bits | more for bits, more in zip(seen, bits_of_rule)]
    found = answers_by_mark(list(zip(others, seen)), answers)
    return all([len(had) == many for had in found.values()])


def to_strike(setting, user, secret, *, tries=False):
    """The fewest let rules of the verb read without which the secret is kept, or None (TooMany, NoAsk)."""
    ground, rules, views = setting
    worlds = all_worlds(ground)
    answers = numbered(secret_answers(ground, worlds, secret))
    many_answers = len(set(answers))
    # Neither views with own eyes nor tries hang on rules of the verb read.
    means = own_views(setting, user) + some_tries(setting, tries)
    others = numbered([told_by(setting, user, world, means) for world in worlds])
    # To strike a rule that is not for the user makes no difference, so the fewest have none such.
    lets = [rule for rule in sorted(rules) if rule[0] == "read" and rule[1] == "let" and is_for(rule[3], user)]
    shown = [shown_by(setting, user, worlds, rule) for rule in lets]
    for many in range(len(lets) + 1):
        for struck in choices(list(range(len(lets))), many):
            left = [bits for place, bits in enumerate(shown) if place not in struck]
            if is_kept(others, left, answers, many_answers):
                return [lets[place] for place in struck]
    return None
