"""What a plan is, and the sense of each of its acts."""

from shardask.errors import NoColumn, NoHouse, NoKind, NoPlan, NoQuestion, NoTable, TooWide, Twice, Unsound
from shardask.questions import has_form, head_of, questions_in, with_questions
from shardask.values import is_name, is_number_below, is_one_of, is_whole, names_of
from shardask.wholes import place_of

# For each act that makes a question the sort of it; merge and the sending acts make none of their own.
MADE_SORTS = {
    "scan": "table",
    "where": "where",
    "keep": "keep",
    "named": "named",
    "join": "join",
    "group": "group",
    "first": "first",
    "part": "group",
    "cut": "first",
}
HALVES = ("part", "cut")
SENDING = ("deal", "copy", "bring")
MOST_ACTS = 60
COPIED = ("copied",)
LOOSE = ("loose",)


def as_question(act):
    # Numbers of acts stand in it where a question has those in it.
    return (MADE_SORTS[act[0]],) + act[1:]


def acts_in(act):
    return questions_in(as_question(act)) if act[0] in MADE_SORTS else [act[1]]


def has_own_form(thing):
    if is_one_of(thing[0], ("merge", "copy")):
        return len(thing) == 2
    if is_one_of(thing[0], ("deal",)):
        return len(thing) == 3 and is_name(thing[2])
    return is_one_of(thing[0], ("bring",)) and len(thing) == 3 and is_whole(thing[2])


def has_act_form(thing):
    if not isinstance(thing, tuple) or len(thing) == 0:
        return False
    if is_one_of(thing[0], tuple(MADE_SORTS)):
        return has_form(as_question(thing))
    return has_own_form(thing)


def is_act(thing, number):
    return has_act_form(thing) and all([is_number_below(ahead, number) for ahead in acts_in(thing)])


def is_plan(thing):
    if not isinstance(thing, list) or not 1 <= len(thing) <= MOST_ACTS:
        return False
    return all([is_act(act, number) for number, act in enumerate(thing)])


def head_at(number, heads, question):
    # Each refusal is made anew, since it is the act's now.
    try:
        return head_of(heads, question)
    except NoQuestion:
        raise NoQuestion(number) from None
    except NoTable:
        raise NoTable(number) from None
    except NoColumn:
        raise NoColumn(number) from None
    except NoKind:
        raise NoKind(number) from None
    except Twice:
        raise Twice(number) from None
    except TooWide:
        raise TooWide(number) from None


def need_fitting(number, act, question, town):
    head = head_at(number, town.heads(), question)
    if act[0] == "deal" and act[2] not in names_of(head):
        raise NoColumn(number)
    if act[0] == "bring" and not is_number_below(act[2], town.houses()):
        raise NoHouse(number)


def question_at(act, inner):
    questions = [sense[1] for sense in inner]
    return with_questions(as_question(act), questions) if act[0] in MADE_SORTS else questions[0]


def is_whole_at(act, inner):
    if act[0] in SENDING:
        return inner[0][0]
    return act[0] not in HALVES


def scan_spread(placing):
    if placing[0] == "copies":
        return COPIED
    return ("dealt", placing[1]) if placing[0] == "keys" else LOOSE


def kept_spread(spread, names):
    return LOOSE if spread[0] == "dealt" and spread[1] not in names else spread


def named_spread(spread, head, names):
    return ("dealt", names[place_of(head, spread[1])]) if spread[0] == "dealt" else spread


def paired_spread(spread, pairs):
    for pair in pairs:
        if spread == ("dealt", pair[1]):
            return ("dealt", pair[0])
    return spread


def join_spread(spread, other, pairs):
    if other == COPIED:
        return spread
    if spread == COPIED:
        return paired_spread(other, pairs)
    if spread[0] == "dealt" and other[0] == "dealt" and (spread[1], other[1]) in pairs:
        return spread
    # None: alike rows may stand in unlike houses, so the join has no spread.
    return spread if spread[0] == "at" and spread == other else None


def sent_spread(act):
    if act[0] == "deal":
        return ("dealt", act[2])
    return COPIED if act[0] == "copy" else ("at", act[2])


def spread_at(act, inner, town):
    if act[0] == "scan":
        return scan_spread(town.placing(act[1]))
    if act[0] in SENDING:
        return sent_spread(act)
    spread = inner[0][2]
    if act[0] in ("keep", "group", "part"):
        return kept_spread(spread, act[2])
    if act[0] == "named":
        return named_spread(spread, head_of(town.heads(), inner[0][1]), act[2])
    return join_spread(spread, inner[1][2], act[3]) if act[0] == "join" else spread


def is_gathered(question, spread):
    # Whether all rows that count for one row of the answer stand in one house.
    if spread[0] in ("copied", "at"):
        return True
    return question[0] == "group" and spread[0] == "dealt" and spread[1] in question[2]


def is_sound(act, question, inner):
    if act[0] in MADE_SORTS and not all([sense[0] for sense in inner]):
        return False
    if act[0] == "merge" and inner[0][0]:
        return False
    return act[0] not in ("group", "first", "merge") or is_gathered(question, inner[0][2])


def sense_at(number, act, inner, town):
    question = question_at(act, inner)
    need_fitting(number, act, question, town)
    spread = spread_at(act, inner, town)
    if spread is None or not is_sound(act, question, inner):
        raise Unsound(number)
    return (is_whole_at(act, inner), question, spread)


def senses(town, plan):
    if not is_plan(plan):
        raise NoPlan(None)
    told = []
    for number, act in enumerate(plan):
        told.append(sense_at(number, act, [told[ahead] for ahead in acts_in(act)], town))
    return told
