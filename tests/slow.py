"""Points 7, 8, 9 and 14 written down once more, as plainly as may be: what the program is held against."""


def names_of(ground, table):
    return [tuple(column[0] for column in columns) for name, key, columns in ground if name == table][0]


def rows_of(ground, world, table):
    return [rows for (name, key, columns), rows in zip(ground, world) if name == table][0]


def told(ground, world, columns, row, condition, heard):
    """What a condition tells of a row; what it hears goes into the set."""
    word, *behind = condition
    value = dict(zip(columns, row))
    if word == "yes":
        return True
    if word == "loud":
        heard.add((behind[0], value[behind[0]]))
        return True
    if word == "empty":
        return value[behind[0]] == -1
    if word == "same":
        left, right = value[behind[0]], value[behind[1]]
        return None if -1 in (left, right) else left == right
    if word in ("is", "below"):
        left = value[behind[0]]
        return None if left == -1 else (left == behind[1] if word == "is" else left < behind[1])
    if word == "has":
        return has_told(ground, world, value[behind[1]], behind, heard)
    left = told(ground, world, columns, row, behind[0], heard)
    if word == "not":
        return {True: False, False: True, None: None}[left]
    if word == "and":
        return told(ground, world, columns, row, behind[1], heard) if left is True else left
    if left is True:
        return True
    right = told(ground, world, columns, row, behind[1], heard)
    return right if left is False else (True if right is True else None)


def has_told(ground, world, value, behind, heard):
    table, column, other, condition = behind
    if value == -1:
        return False
    names = names_of(ground, table)
    for row in rows_of(ground, world, table):
        if dict(zip(names, row))[other] == value and told(ground, world, names, row, condition, heard) is True:
            return True
    return False


def answered(ground, world, ask, heard):
    """The head of a plain ask, and the set of its rows; what it hears goes into the set."""
    word, *behind = ask
    if word == "rows":
        return names_of(ground, behind[0]), set(rows_of(ground, world, behind[0]))
    head, rows = answered(ground, world, behind[0], heard)
    if word == "where":
        return head, {row for row in rows if told(ground, world, head, row, behind[1], heard) is True}
    if word == "keep":
        return behind[1], {tuple(dict(zip(head, row))[name] for name in behind[1]) for row in rows}
    if word == "named":
        return behind[1], rows
    if word == "count":
        return (behind[1],), {(len(rows),)}
    if word == "seal":
        return head, rows
    other_head, others = answered(ground, world, behind[1], heard)
    if word == "pairs":
        return head + other_head, {row + other for row in rows for other in others}
    return head, (rows | others if word == "both" else rows - others)
