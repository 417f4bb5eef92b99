"""Points 7 to 14, 21 and 22 written down once more, as plainly as may be: what the program is held against."""


def names_of(ground, table):
    return [tuple(column[0] for column in columns) for name, key, columns in ground if name == table][0]


def rows_of(ground, world, table):
    return [rows for (name, key, columns), rows in zip(ground, world) if name == table][0]


def told(ground, world, columns, row, condition, heard, user=0):
    """What a condition tells of a row; what it hears goes into the set."""
    word, *behind = condition
    value = dict(zip(columns, row))
    if word == "yes":
        return True
    if word == "loud":
        heard.add((behind[0], value[behind[0]]))
        return True
    if word == "empty":
        return value[behind[0]] == -1
    if word == "same":
        left, right = value[behind[0]], value[behind[1]]
        return None if -1 in (left, right) else left == right
    if word == "mine":
        left = value[behind[0]]
        return None if left == -1 else left == user
    if word in ("is", "below"):
        left = value[behind[0]]
        return None if left == -1 else (left == behind[1] if word == "is" else left < behind[1])
    if word == "has":
        return has_told(ground, world, value[behind[1]], behind, heard, user)
    left = told(ground, world, columns, row, behind[0], heard, user)
    if word == "not":
        return {True: False, False: True, None: None}[left]
    if word == "and":
        return told(ground, world, columns, row, behind[1], heard, user) if left is True else left
    if left is True:
        return True
    right = told(ground, world, columns, row, behind[1], heard, user)
    return right if left is False else (True if right is True else None)


def has_told(ground, world, value, behind, heard, user):
    table, column, other, condition = behind
    if value == -1:
        return False
    names = names_of(ground, table)
    for row in rows_of(ground, world, table):
        if dict(zip(names, row))[other] == value:
            if told(ground, world, names, row, condition, heard, user) is True:
                return True
    return False


def answered(ground, world, ask, heard, user=0, view=None):
    """The head of an ask, and the set of its rows; what it hears goes into the set; view tells so of a view's name."""
    word, *behind = ask
    if word == "rows":
        return names_of(ground, behind[0]), set(rows_of(ground, world, behind[0]))
    if word == "view":
        return view(behind[0])
    head, rows = answered(ground, world, behind[0], heard, user, view)
    if word == "where":
        return head, {row for row in rows if told(ground, world, head, row, behind[1], heard, user) is True}
    if word == "keep":
        return behind[1], {tuple(dict(zip(head, row))[name] for name in behind[1]) for row in rows}
    if word == "named":
        return behind[1], rows
    if word == "count":
        return (behind[1],), {(len(rows),)}
    if word == "seal":
        return head, rows
    other_head, others = answered(ground, world, behind[1], heard, user, view)
    if word == "pairs":
        return head + other_head, {row + other for row in rows for other in others}
    return head, (rows | others if word == "both" else rows - others)


def may(setting, world, user, verb, table, row):
    """Whether the user may do to the row what the verb tells."""
    ground, rules, views = setting
    let, must = [], []
    for its_verb, kind, its_table, users, condition in rules:
        if its_verb == verb and its_table == table and (not users or user in users):
            tells = told(ground, world, names_of(ground, table), row, condition, set(), user) is True
            (let if kind == "let" else must).append(tells)
    return any(let) and all(must)


def seen(setting, world, user):
    """The world that the user sees."""
    return tuple(
        tuple(row for row in rows if may(setting, world, user, "read", table[0], row))
        for table, rows in zip(setting[0], world)
    )


def asked(setting, world, user, ask, heard):
    """The head of what a user asks, and the set of its rows; what it hears goes into the set."""
    ground, rules, views = setting
    eyes = seen(setting, world, user)
    asks = {name: (ask, mode) for name, ask, mode, users in views}

    def whole(name):
        return answered(ground, world, asks[name][0], set(), user, whole)

    def through(name):
        ask, mode = asks[name]
        return whole(name) if mode == "own" else answered(ground, eyes, ask, set(), user, through)

    return answered(ground, eyes, ask, heard, user, through)


def key(setting, table, row):
    width = [key for name, key, columns in setting[0] if name == table][0]
    return row[:width] if width else row


def tried(setting, world, user, table, row):
    """What a put of the row would come to."""
    rows = rows_of(setting[0], world, table)
    if not may(setting, world, user, "put", table, row):
        return "barred"
    if key(setting, table, row) in [key(setting, table, other) for other in rows]:
        return "taken"
    return "full" if len(rows) == 12 else "put"


def with_rows(setting, world, table, rows):
    return tuple(tuple(sorted(rows)) if its[0] == table else old for its, old in zip(setting[0], world))


def meant(setting, world, user, table, condition):
    """The rows that the user sees, and may drop, and of which the condition tells True."""
    ground = setting[0]
    eyes = seen(setting, world, user)
    return [
        row for row in rows_of(ground, eyes, table)
        if may(setting, world, user, "drop", table, row)
        and told(ground, eyes, names_of(ground, table), row, condition, set(), user) is True
    ]


def turned(setting, world, user, table, condition, column, value):
    """The world with the rows turned, or the word of what refuses it."""
    old = meant(setting, world, user, table, condition)
    place = names_of(setting[0], table).index(column)
    new = [row[:place] + (value,) + row[place + 1:] for row in old]
    if not all(may(setting, world, user, "put", table, row) for row in new):
        return "NotLet"
    rows = [row for row in rows_of(setting[0], world, table) if row not in old] + new
    if [key for name, key, columns in setting[0] if name == table][0] == 0:
        rows = list(set(rows))
    keys = [key(setting, table, row) for row in rows]
    return "Taken" if len(set(keys)) < len(keys) else with_rows(setting, world, table, rows)
