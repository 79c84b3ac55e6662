"""The plan of a question: as it is where that is sound, else with what must be sent ahead."""

from shardask.errors import Unsound
from shardask.plans import acts_in, sense_at
from shardask.questions import head_of, questions_in, with_questions


class Draft:
    def __init__(self, town):
        self.ground = town
        self.acts = []
        self.meanings = []

    def sense_of(self, act):
        return sense_at(len(self.acts), act, [self.meanings[ahead] for ahead in acts_in(act)], self.ground)

    def is_sound_with(self, act):
        try:
            self.sense_of(act)
        except Unsound:
            return False
        return True

    def added(self, act):
        # Tells the number of the act.
        self.meanings.append(self.sense_of(act))
        self.acts.append(act)
        return len(self.acts) - 1

    def is_dealt(self, number, column):
        return self.meanings[number][2] == ("dealt", column)


def as_act(question, inner):
    return ("scan", question[1]) if question[0] == "table" else with_questions(question, inner)


def pair_dealt(draft, number, pairs, side):
    for pair in pairs:
        if draft.is_dealt(number, pair[side]):
            return pair
    return None


def dealt_for_join(draft, first, other, pairs):
    pair = pair_dealt(draft, first, pairs, 0)
    if pair is not None:
        return (first, draft.added(("deal", other, pair[1])))
    pair = pair_dealt(draft, other, pairs, 1)
    if pair is not None:
        return (draft.added(("deal", first, pair[0])), other)
    dealt = draft.added(("deal", first, pairs[0][0]))
    return (dealt, draft.added(("deal", other, pairs[0][1])))


def plan_join(draft, act):
    return draft.added(("join",) + dealt_for_join(draft, act[1], act[2], act[3]) + act[3:])


def plan_group(draft, act):
    half = draft.added(("part",) + act[1:])
    names = act[2]
    sent = draft.added(("deal", half, names[0]) if names else ("bring", half, 0))
    return draft.added(("merge", sent))


def plan_first(draft, act):
    half = draft.added(("cut",) + act[1:])
    return draft.added(("merge", draft.added(("bring", half, 0))))


def plan_within(draft, question):
    # Tells the number of the act that has the question.
    inner = [plan_within(draft, part) for part in questions_in(question)]
    act = as_act(question, inner)
    if draft.is_sound_with(act):
        return draft.added(act)
    if question[0] == "join":
        return plan_join(draft, act)
    return plan_group(draft, act) if question[0] == "group" else plan_first(draft, act)


def plan_of(town, question):
    head_of(town.heads(), question)
    draft = Draft(town)
    plan_within(draft, question)
    return draft.acts
