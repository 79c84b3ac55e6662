"""A plan in a town, as the houses go through it: what each work makes, and which bundles it packs."""

from shardask.errors import Unsound
from shardask.plans import COPIED, SENDING, acts_in, as_question, senses
from shardask.questions import head_of
from shardask.values import home
from shardask.wholes import first_rows, group_rows, in_answer_order, place_of, rows_here


def merged_sum(part):
    # What was counted in each house is summed over them.
    return (part[0] if part[0] in ("least", "most") else "sum", part[2], part[2])


def merged_rows(question, head, rows):
    if question[0] == "first":
        return first_rows(head, rows, question[2], question[3])
    return group_rows(head, rows, question[2], [merged_sum(part) for part in question[3]])


def dealt_rows(rows, place, houses):
    lots = [[] for house in range(houses)]
    for row in rows:
        lots[home(row[place], houses)].append(row)
    return lots


def packed_rows(act, head, rows, houses):
    # For each house the rows that are to be there.
    if act[0] == "deal":
        return dealt_rows(rows, place_of(head, act[2]), houses)
    if act[0] == "copy":
        return [rows for house in range(houses)]
    return [rows if house == act[2] else [] for house in range(houses)]


class Course:
    def __init__(self, town, plan):
        self.meanings = senses(town, plan)
        # The plan is the course's own list: the one handed in may be changed later.
        self.acts = list(plan)
        self.ground = town
        self.act_heads = [head_of(town.heads(), sense[1]) for sense in self.meanings]

    def house_numbers(self):
        return list(range(self.ground.houses()))

    def acts_ahead(self, number):
        return acts_in(self.acts[number])

    def done_rows(self, number, house, inner):
        act = self.acts[number]
        if act[0] == "scan":
            return self.ground.part(act[1], house)
        if act[0] == "merge":
            return merged_rows(self.meanings[number][1], self.act_heads[number], inner[0])
        return rows_here(as_question(act), [self.act_heads[ahead] for ahead in self.acts_ahead(number)], inner)

    def worked(self, number, house, inner):
        # For each house what this one has for it, by its own rows of the acts ahead.
        if self.acts[number][0] in SENDING:
            return packed_rows(self.acts[number], self.act_heads[number], inner[0], self.ground.houses())
        rows = self.done_rows(number, house, inner)
        return [rows if other == house else [] for other in self.house_numbers()]

    def senders(self, number, house):
        act = self.acts[number]
        if act[0] not in SENDING or self.meanings[act[1]][2] == COPIED:
            return []
        if act[0] == "bring" and act[2] != house:
            return []
        return [other for other in self.house_numbers() if other != house]

    def need_answer(self):
        if not self.meanings[-1][0]:
            raise Unsound(len(self.acts) - 1)

    def answer_by(self, parts):
        sense = self.meanings[-1]
        rows = []
        # Of copied ones each house has them all.
        for part in parts[:1] if sense[2] == COPIED else parts:
            rows.extend(part)
        return in_answer_order(self.act_heads[-1], rows, sense[1])
