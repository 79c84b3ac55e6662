"""Values, questions and rows written as texts."""

from shardask.questions import checked
from shardask.values import is_whole


def shown_value(value):
    return str(value) if is_whole(value) else "'" + value + "'"


def shown_test(test):
    other = test[2]
    return " ".join([test[0], test[1], shown_value(other[1]) if other[0] == "value" else other[1]])


def shown_sum(part):
    if part[0] == "count":
        return "with count " + part[2]
    return " ".join(["with", part[0], part[1], part[2]])


def shown_key(key):
    return " ".join(["by", key[0], key[1]])


def shown_join(question):
    pairs = " and ".join([" ".join(pair) for pair in question[3]])
    return " ".join(["join", "(", shown_within(question[2]), ")", "on", pairs])


def shown_step(question):
    sort = question[0]
    if sort == "where":
        return "where " + " and ".join([shown_test(test) for test in question[2]])
    if sort == "join":
        return shown_join(question)
    if sort == "group":
        return " ".join(["group"] + list(question[2]) + [shown_sum(part) for part in question[3]])
    if sort == "first":
        return " ".join(["first", str(question[3])] + [shown_key(key) for key in question[2]])
    return " ".join([sort] + list(question[2]))


def shown_within(question):
    if question[0] == "table":
        return question[1]
    return shown_within(question[1]) + " " + shown_step(question)


def shown_question(question):
    return shown_within(checked(question))


def shown_row(row):
    return " ".join([shown_value(value) for value in row])


def shown_rows(rows):
    return "; ".join([shown_row(row) for row in rows]) if rows else "-"
