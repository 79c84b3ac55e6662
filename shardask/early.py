"""A question with its tests moved early: each one as deep within it as the answer allows."""

from shardask.questions import head_of, questions_in, with_questions
from shardask.values import names_of


def columns_of(test):
    return [test[0], test[2][1]] if test[2][0] == "column" else [test[0]]


def renamed(test, names):
    other = ("column", names[test[2][1]]) if test[2][0] == "column" else test[2]
    return (names[test[0]], test[1], other)


def are_among(columns, names):
    return all([column in names for column in columns])


def side_of_join(heads, question, columns):
    if are_among(columns, names_of(head_of(heads, question[1]))):
        return 0
    # A d of a pair is not seen from outside: what is called so there is a column of the other side.
    paired = [pair[1] for pair in question[3]]
    seen = [name for name in names_of(head_of(heads, question[2])) if name not in paired]
    return 1 if are_among(columns, seen) else None


def side_for(heads, question, columns):
    # Which of the questions in it takes a test of these columns, None where none may.
    sort = question[0]
    if sort == "join":
        return side_of_join(heads, question, columns)
    if sort == "group":
        return 0 if are_among(columns, question[2]) else None
    return 0 if sort in ("where", "keep", "named") else None


def by_inner_names(heads, question, test):
    if question[0] != "named":
        return test
    old_names = names_of(head_of(heads, question[1]))
    return renamed(test, dict(zip(question[2], old_names)))


def sunk(heads, question, test):
    side = side_for(heads, question, columns_of(test))
    if side is None:
        return ("where", question, (test,))
    inner = questions_in(question)
    inner[side] = sunk(heads, inner[side], by_inner_names(heads, question, test))
    return with_questions(question, inner)


def moved(heads, question):
    inner = [moved(heads, part) for part in questions_in(question)]
    if question[0] != "where":
        return with_questions(question, inner)
    become = inner[0]
    for test in question[2]:
        become = sunk(heads, become, test)
    return become


def early(heads, question):
    head_of(heads, question)
    return moved(heads, question)
