"""Many made plans: their senses by a second way of going through the document's words, and done house by house."""

import random
import unittest

from shardask.errors import ShardError
from shardask.plans import senses
from shardask.questions import head_of
from shardask.towns import Town
from shardask.values import home
from shardask.wholes import rows_of
from tests.test_made_questions import HEADS, NAMES, Refused, go, made_sums, made_tables, made_tests, size

MANY = 400
NO_ROWS = {name: [] for name in HEADS}


def columns_of(question):
    return [name for name, _ in go(question, NO_ROWS)[0]]


def need(holds, error):
    if not holds:
        raise Refused(error)


def second_way(town, plan):
    """Tells the senses, or raises Refused with the error's name and the number of the act."""
    told = []
    for number, act in enumerate(plan):
        try:
            told.append(SECOND[act[0]](town, told, *act[1:]))
        except Refused as refused:
            raise Refused(refused.args[0], number) from None
    return told


def fit(question):
    need(size(question) <= 20, "NoQuestion")
    go(question, NO_ROWS)
    return question


def of_scan(town, told, table):
    question = fit(("table", table))
    placing = town.placing(table)
    return True, question, {"copies": ("copied",), "keys": ("dealt",) + placing[1:2], "spans": ("loose",)}[placing[0]]


def of_where(town, told, a, tests):
    question = fit(("where", told[a][1], tests))
    need(told[a][0], "Unsound")
    return True, question, told[a][2]


def unless_lost(spread, names):
    return spread if spread[0] != "dealt" or spread[1] in names else ("loose",)


def of_keep(town, told, a, names):
    question = fit(("keep", told[a][1], names))
    need(told[a][0], "Unsound")
    return True, question, unless_lost(told[a][2], names)


def of_named(town, told, a, names):
    question = fit(("named", told[a][1], names))
    need(told[a][0], "Unsound")
    spread = told[a][2]
    if spread[0] == "dealt":
        spread = ("dealt", dict(zip(columns_of(told[a][1]), names))[spread[1]])
    return True, question, spread


def of_join(town, told, a, b, pairs):
    question = fit(("join", told[a][1], told[b][1], pairs))
    need(told[a][0] and told[b][0], "Unsound")
    x, y = told[a][2], told[b][2]
    if y[0] == "copied":
        return True, question, x
    if x[0] == "copied":
        to = {d: c for c, d in pairs}
        return True, question, ("dealt", to.get(y[1], y[1])) if y[0] == "dealt" else y
    need((x[0] == y[0] == "at" and x == y) or (x[0] == y[0] == "dealt" and (x[1], y[1]) in pairs), "Unsound")
    return True, question, x


def groups_well(spread, names):
    return spread[0] in ("copied", "at") or (spread[0] == "dealt" and spread[1] in names)


def of_group(town, told, a, names, sums):
    question = fit(("group", told[a][1], names, sums))
    need(told[a][0] and groups_well(told[a][2], names), "Unsound")
    return True, question, told[a][2]


def of_part(town, told, a, names, sums):
    question = fit(("group", told[a][1], names, sums))
    need(told[a][0], "Unsound")
    return False, question, unless_lost(told[a][2], names)


def of_first(town, told, a, keys, many):
    question = fit(("first", told[a][1], keys, many))
    need(told[a][0] and groups_well(told[a][2], ()), "Unsound")
    return True, question, told[a][2]


def of_cut(town, told, a, keys, many):
    question = fit(("first", told[a][1], keys, many))
    need(told[a][0], "Unsound")
    return False, question, told[a][2]


def of_merge(town, told, a):
    need(not told[a][0], "Unsound")
    question = told[a][1]
    need(groups_well(told[a][2], question[2] if question[0] == "group" else ()), "Unsound")
    return True, question, told[a][2]


def of_deal(town, told, a, name):
    need(name in columns_of(told[a][1]), "NoColumn")
    return told[a][:2] + (("dealt", name),)


def of_copy(town, told, a):
    return told[a][:2] + (("copied",),)


def of_bring(town, told, a, house):
    need(house in range(town.houses()), "NoHouse")
    return told[a][:2] + (("at", house),)


SECOND = {"scan": of_scan, "where": of_where, "keep": of_keep, "named": of_named, "join": of_join, "group": of_group,
          "part": of_part, "first": of_first, "cut": of_cut, "merge": of_merge, "deal": of_deal, "copy": of_copy,
          "bring": of_bring}


def done(town, plan, told):
    """For each act, for each house, the rows there: just as the acts say, whatever their senses tell of it."""
    parts = []
    houses = range(town.houses())
    for act, sense in zip(plan, told):
        if act[0] == "scan":
            parts.append([town.part(act[1], house) for house in houses])
        elif act[0] in ("deal", "copy", "bring"):
            parts.append(sent(act, told[act[1]], parts[act[1]], head_of(town.heads(), sense[1])))
        elif act[0] == "merge":
            parts.append([merged(town, sense[1], rows) for rows in parts[act[1]]])
        else:
            parts.append([own(town, act, told, [parts[a][house] for a in ahead_of(act)]) for house in houses])
    return parts


def ahead_of(act):
    return act[1:3] if act[0] == "join" else act[1:2]


def own(town, act, told, rows):
    heads = {name: head_of(town.heads(), told[a][1]) for name, a in zip("xy", ahead_of(act))}
    word = {"part": "group", "cut": "first"}.get(act[0], act[0])
    inner = tuple(("table", name) for name in heads)
    return rows_of(heads, dict(zip("xy", rows)), (word,) + inner + act[1 + len(inner):])


def merged(town, question, rows):
    heads = {"x": head_of(town.heads(), question)}
    if question[0] == "first":
        return rows_of(heads, {"x": rows}, ("first", ("table", "x")) + question[2:])
    sums = tuple((word if word in ("least", "most") else "sum", new, new) for word, _, new in question[3])
    return rows_of(heads, {"x": rows}, ("group", ("table", "x"), question[2], sums))


def sent(act, sense, parts, head):
    """Of copied ones each house has its own already; of others all rows go out together."""
    houses = range(len(parts))
    together = [row for rows in parts for row in rows]
    out = [rows if sense[2] == ("copied",) else together for rows in parts]
    if act[0] == "copy":
        return out
    if act[0] == "bring":
        return [out[house] if house == act[2] else [] for house in houses]
    place = [name for name, _ in head].index(act[2])
    return [[row for row in out[house] if home(row[place], len(parts)) == house] for house in houses]


def made_placing(chance, head, houses):
    name, kind = chance.choice(head)
    lows = (0, 1, 2) if kind == "number" else ("a", "p", "pq")
    cuts = [(None, chance.randrange(houses))]
    cuts += [(low, chance.randrange(houses)) for low in lows if chance.random() < 0.6]
    return chance.choice((("copies",), ("keys", name), ("keys", name), ("spans", name, tuple(cuts))))


def made_town(chance):
    houses = chance.choice((1, 2, 2, 3, 3, 4, 5, 6))
    tables = made_tables(chance)
    return Town(houses, {name: (head, made_placing(chance, head, houses), tables[name])
                         for name, head in HEADS.items()})


def made_act(chance, town, plan, told):
    a = chance.choice(range(len(plan)))
    if chance.random() < 0.6:
        a = len(plan) - 1
    columns = dict(go(told[a][1], NO_ROWS)[0])
    names = list(columns) + (["zz"] if chance.random() < 0.03 else [])
    some = tuple(chance.sample(names, chance.randint(1, len(names)))[:8])
    if not told[a][0] and chance.random() < 0.5:
        return ("merge", a)
    word = chance.choice(list(SECOND) + ["deal", "bring", "scan", "join", "join", "join"])
    keys = tuple((name, chance.choice(("up", "down"))) for name in some[:chance.randint(0, 3)])
    parts = {
        "scan": lambda: (chance.choice(list(HEADS) + ["u"] if chance.random() < 0.1 else list(HEADS)),),
        "where": lambda: (a, made_tests(chance, names, columns)),
        "keep": lambda: (a, some),
        "named": lambda: (a, tuple(chance.sample(NAMES, len(columns)))),
        "join": lambda: made_join(chance, told, a, chance.choice(range(len(plan)))),
        "merge": lambda: (a,),
        "deal": lambda: (a, some[0]),
        "copy": lambda: (a,),
        "bring": lambda: (a, chance.randrange(town.houses() + (chance.random() < 0.1))),
    }
    if word in ("group", "part"):
        return (word, a, some[:chance.randint(0, 3)], made_sums(chance, names))
    if word in ("first", "cut"):
        return (word, a, keys, chance.choice((0, 1, 2, 3, 60)))
    return (word,) + parts[word]()


def made_join(chance, told, a, b):
    here, there = dict(go(told[a][1], NO_ROWS)[0]), dict(go(told[b][1], NO_ROWS)[0])
    pairs = [(name, name) for name in here if name in there][:3]
    if not pairs or chance.random() < 0.3:
        pairs = [(chance.choice(list(here)), chance.choice(list(there))) for _ in range(chance.randint(1, 2))]
    return (a, b, tuple(pairs))


class MadePlansTest(unittest.TestCase):
    def test_both_ways_tell_the_same_and_sound_plans_hold(self):
        chance = random.Random(16)
        self.seen = {}
        for _ in range(MANY):
            town = made_town(chance)
            plan = [("scan", name) for name in HEADS]
            told = second_way(town, plan)
            while len(plan) < 14:
                act = made_act(chance, town, plan, told)
                if self.compare(town, plan + [act]):
                    plan.append(act)
                    told = second_way(town, plan)
            self.hold(town, plan, told)
        for word in SECOND:
            self.assertGreater(self.seen.get(word, 0), 50, self.seen)
        for error in ("NoTable", "NoColumn", "NoKind", "Twice", "TooWide", "NoHouse", "Unsound"):
            self.assertGreater(self.seen.get(error, 0), 5, self.seen)
        for spread in ("copied", "dealt", "at", "loose"):
            self.assertGreater(self.seen.get(("join", spread), 0), 10, self.seen)

    def count(self, what):
        self.seen[what] = self.seen.get(what, 0) + 1

    def compare(self, town, plan):
        try:
            told = second_way(town, plan)
        except Refused as refused:
            with self.assertRaises(ShardError) as taken:
                senses(town, plan)
            told = (taken.exception.__class__.__name__, taken.exception.act)
            self.assertEqual(told, refused.args, plan)
            self.count(told[0])
            return False
        self.assertEqual(senses(town, plan), told, plan)
        self.count(plan[-1][0])
        self.count((plan[-1][0], told[-1][2][0]))
        return True

    def hold(self, town, plan, told):
        """What the senses tell is so: the rows of whole acts, and where the rows of each act stand."""
        for act, (is_whole, question, spread), parts in zip(plan, told, done(town, plan, told)):
            head = head_of(town.heads(), question)
            if spread[0] == "copied":
                self.assertEqual([sorted(rows) for rows in parts], [sorted(parts[0])] * len(parts), act)
            for house, rows in enumerate(parts):
                if spread[0] == "at" and house != spread[1]:
                    self.assertEqual(rows, [], act)
                if spread[0] == "dealt":
                    place = [name for name, _ in head].index(spread[1])
                    self.assertEqual({home(row[place], len(parts)) for row in rows} - {house}, set(), act)
            rows = parts[0] if spread[0] == "copied" else [row for rows in parts for row in rows]
            if is_whole:
                self.assertEqual(sorted(rows), rows_of(town.heads(), town.tables(), question), (act, question))


if __name__ == "__main__":
    unittest.main()
