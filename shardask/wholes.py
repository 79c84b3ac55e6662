"""The rows of a question by whole tables, and its answer."""

from shardask.questions import head_of, questions_in
from shardask.values import names_of


def place_of(head, name):
    return names_of(head).index(name)


def places_of(head, names):
    return [place_of(head, name) for name in names]


def picked(row, places):
    return tuple([row[place] for place in places])


def rows_by(rows, places):
    lots = {}
    for row in rows:
        lots.setdefault(picked(row, places), []).append(row)
    return lots


def compares(value, sign, other):
    if sign == "=":
        return value == other
    if sign == "!":
        return value != other
    return value < other if sign == "<" else value > other


def holds(head, row, test):
    other = test[2]
    against = other[1] if other[0] == "value" else row[place_of(head, other[1])]
    return compares(row[place_of(head, test[0])], test[1], against)


def where_rows(head, rows, tests):
    return [row for row in rows if all([holds(head, row, test) for test in tests])]


def keep_rows(head, rows, names):
    places = places_of(head, names)
    return [picked(row, places) for row in rows]


def join_rows(head, rows, other_head, other_rows, pairs):
    here = places_of(head, [pair[0] for pair in pairs])
    there = places_of(other_head, [pair[1] for pair in pairs])
    left_over = [place for place in range(len(other_head)) if place not in there]
    lots = rows_by(other_rows, there)
    joined = []
    for row in rows:
        for other in lots.get(picked(row, here), []):
            joined.append(row + picked(other, left_over))
    return joined


def summed(head, rows, part):
    if part[0] == "count":
        return len(rows)
    place = place_of(head, part[1])
    column = [row[place] for row in rows]
    if part[0] == "sum":
        return sum(column)
    return min(column) if part[0] == "least" else max(column)


def group_rows(head, rows, names, sums):
    lots = rows_by(rows, places_of(head, names))
    return [lot + tuple([summed(head, members, part) for part in sums]) for lot, members in lots.items()]


def sorted_by(rows, place, way):
    if way == "down":
        return sorted(rows, key=lambda row: row[place], reverse=True)
    return sorted(rows, key=lambda row: row[place])


def ordered(head, rows, keys):
    told = sorted(rows)
    # A sort leaves equal ones in their order, so the key that counts most comes last.
    for key in reversed(keys):
        told = sorted_by(told, place_of(head, key[0]), key[1])
    return told


def first_rows(head, rows, keys, many):
    return ordered(head, rows, keys)[:many]


def rows_here(question, heads, rows):
    # By the heads and the rows of the questions in it: of what they are is not looked at.
    sort = question[0]
    if sort == "where":
        return where_rows(heads[0], rows[0], question[2])
    if sort == "keep":
        return keep_rows(heads[0], rows[0], question[2])
    if sort == "named":
        return rows[0]
    if sort == "group":
        return group_rows(heads[0], rows[0], question[2], question[3])
    if sort == "first":
        return first_rows(heads[0], rows[0], question[2], question[3])
    return join_rows(heads[0], rows[0], heads[1], rows[1], question[3])


def rows_within(heads, tables, question):
    if question[0] == "table":
        return tables[question[1]]
    inner = questions_in(question)
    rows = [rows_within(heads, tables, part) for part in inner]
    return rows_here(question, [head_of(heads, part) for part in inner], rows)


def in_answer_order(head, rows, question):
    return ordered(head, rows, question[2] if question[0] == "first" else ())


def rows_of(heads, tables, question):
    head_of(heads, question)
    return sorted(rows_within(heads, tables, question))


def whole(heads, tables, question):
    head = head_of(heads, question)
    return in_answer_order(head, rows_within(heads, tables, question), question)
