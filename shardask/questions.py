"""What a question is, and its head by the heads of the tables."""

from shardask.errors import NoColumn, NoKind, NoQuestion, NoTable, TooWide, Twice
from shardask.values import MOST_COLUMNS, are_unlike, is_name, is_one_of, is_tuple_of, is_value, is_whole
from shardask.values import kind_of, names_of

SIGNS = ("=", "<", ">", "!")
SUM_WORDS = ("count", "sum", "least", "most")
WAYS = ("up", "down")
MOST_TESTS = 3
MOST_NAMES = 8
MOST_PAIRS = 3
MOST_SUMS = 4
MOST_KEYS = 3
MOST_ROWS = 60
MOST_SIZE = 20


def is_other(thing):
    if not isinstance(thing, tuple) or len(thing) != 2:
        return False
    if is_one_of(thing[0], ("value",)):
        return is_value(thing[1])
    return is_one_of(thing[0], ("column",)) and is_name(thing[1])


def is_test(thing):
    if not isinstance(thing, tuple) or len(thing) != 3:
        return False
    return is_name(thing[0]) and is_one_of(thing[1], SIGNS) and is_other(thing[2])


def is_pair(thing):
    return is_tuple_of(thing, 2, 2, is_name)


def is_sum(thing):
    if not isinstance(thing, tuple) or len(thing) != 3:
        return False
    if not is_one_of(thing[0], SUM_WORDS) or not is_name(thing[2]):
        return False
    return thing[1] is None if thing[0] == "count" else is_name(thing[1])


def is_key(thing):
    if not isinstance(thing, tuple) or len(thing) != 2:
        return False
    return is_name(thing[0]) and is_one_of(thing[1], WAYS)


def is_many(thing):
    return is_whole(thing) and 0 <= thing <= MOST_ROWS


def are_tests(thing):
    return is_tuple_of(thing, 1, MOST_TESTS, is_test)


def are_names(thing):
    return is_tuple_of(thing, 1, MOST_NAMES, is_name)


def are_group_names(thing):
    return is_tuple_of(thing, 0, MOST_NAMES, is_name)


def are_pairs(thing):
    return is_tuple_of(thing, 1, MOST_PAIRS, is_pair)


def are_sums(thing):
    return is_tuple_of(thing, 0, MOST_SUMS, is_sum)


def are_keys(thing):
    return is_tuple_of(thing, 0, MOST_KEYS, is_key)


def may_be_question(thing):
    # What stands within is looked at by itself, since it may be of any depth.
    return True


# For each sort of question what its parts behind the first one must be.
FORMS = {
    "table": (is_name,),
    "where": (may_be_question, are_tests),
    "keep": (may_be_question, are_names),
    "named": (may_be_question, are_names),
    "join": (may_be_question, may_be_question, are_pairs),
    "group": (may_be_question, are_group_names, are_sums),
    "first": (may_be_question, are_keys, is_many),
}


def has_form(thing):
    if not isinstance(thing, tuple) or len(thing) == 0 or not is_one_of(thing[0], tuple(FORMS)):
        return False
    form = FORMS[thing[0]]
    if len(thing) != len(form) + 1:
        return False
    return all([is_part(part) for is_part, part in zip(form, thing[1:])])


def questions_in(question):
    if question[0] == "table":
        return []
    return list(question[1:3]) if question[0] == "join" else [question[1]]


def with_questions(question, inner):
    return question[:1] + tuple(inner) + question[1 + len(inner):]


def own_size(question):
    return len(question[2]) if question[0] == "where" else 1


def checked(thing):
    # Each question adds to the size, so that this ends soon however deep the thing is.
    size = 0
    waiting = [thing]
    while waiting:
        part = waiting.pop()
        if not has_form(part):
            raise NoQuestion(None)
        size = size + own_size(part)
        if size > MOST_SIZE:
            raise NoQuestion(None)
        waiting.extend(questions_in(part))
    return thing


def kind_in(head, name):
    for column in head:
        if column[0] == name:
            return column[1]
    raise NoColumn(None)


def need_like_kinds(kinds, others):
    if kinds != others:
        raise NoKind(None)


def need_unlike(names):
    if not are_unlike(names):
        raise Twice(None)


def table_head(heads, name):
    if name not in heads:
        raise NoTable(None)
    return heads[name]


def other_kind(head, other):
    return kind_of(other[1]) if other[0] == "value" else kind_in(head, other[1])


def where_head(head, tests):
    need_like_kinds([kind_in(head, test[0]) for test in tests], [other_kind(head, test[2]) for test in tests])
    return head


def keep_head(head, names):
    return tuple([(name, kind_in(head, name)) for name in names])


def named_head(head, names):
    if len(names) != len(head):
        raise NoColumn(None)
    return tuple([(name, column[1]) for name, column in zip(names, head)])


def join_head(head, other, pairs):
    here = [pair[0] for pair in pairs]
    there = [pair[1] for pair in pairs]
    need_like_kinds([kind_in(head, name) for name in here], [kind_in(other, name) for name in there])
    need_unlike(here)
    need_unlike(there)
    return head + tuple([column for column in other if column[0] not in there])


def sum_kind(head, part):
    return "number" if part[0] == "count" else kind_in(head, part[1])


def group_head(head, names, sums):
    kept = keep_head(head, names)
    made = tuple([(part[2], sum_kind(head, part)) for part in sums])
    for part, column in zip(sums, made):
        if part[0] == "sum" and column[1] == "word":
            raise NoKind(None)
    return kept + made


def first_head(head, keys):
    names = [key[0] for key in keys]
    keep_head(head, names)
    need_unlike(names)
    return head


def head_here(heads, question, inner):
    sort = question[0]
    if sort == "table":
        return table_head(heads, question[1])
    if sort == "where":
        return where_head(inner[0], question[2])
    if sort == "keep":
        return keep_head(inner[0], question[2])
    if sort == "named":
        return named_head(inner[0], question[2])
    if sort == "join":
        return join_head(inner[0], inner[1], question[3])
    if sort == "group":
        return group_head(inner[0], question[2], question[3])
    return first_head(inner[0], question[2])


def head_within(heads, question):
    inner = [head_within(heads, part) for part in questions_in(question)]
    head = head_here(heads, question, inner)
    need_unlike(names_of(head))
    if not 1 <= len(head) <= MOST_COLUMNS:
        raise TooWide(None)
    return head


def head_of(heads, question):
    return head_within(heads, checked(question))
