"""Long made rows of deeds on stores, against houses whose rows are really put, carried and taken away."""

import random
import unittest

from shardask.errors import ShardError
from shardask.planner import plan_of
from shardask.runs import Run
from shardask.stores import Store
from shardask.values import home
from shardask.wholes import whole
from tests.test_made_questions import HEADS, made, made_tables, size
from tests.test_made_plans import made_placing

MANY_STORES = 60
MANY_DEEDS = 120
VALUES = {"number": (-2, -1, 0, 1, 2, 3), "word": ("", "a", "p", "pq", "q")}


class Refused(Exception):
    pass


class Second:
    """A table as it really lies in houses: each has its own rows, and moves are done by hand."""

    def __init__(self, houses, head, placing, rows):
        self.houses, self.head, self.placing = houses, head, placing
        self.all = []
        self.at = [[] for _ in range(houses)]
        self.move = None
        for row in rows:
            self.put(row)

    def cuts(self):
        return list(self.placing[2])

    def place(self):
        return [name for name, _ in self.head].index(self.placing[1])

    def span(self, row):
        """The number of the row's cut."""
        lows = [low for low, _ in self.cuts()[1:]]
        return len([low for low in lows if low <= row[self.place()]])

    def houses_of(self, row):
        if self.placing[0] == "copies":
            return list(range(self.houses))
        if self.placing[0] == "keys":
            return [home(row[self.place()], self.houses)]
        here = [self.cuts()[self.span(row)][1]]
        if self.move and self.span(row) == self.move[0] and self.move[2] is not None and not row > self.move[2]:
            here.append(self.move[1])
        return here

    def put(self, row):
        self.all.append(row)
        for house in self.houses_of(row):
            self.at[house].append(row)

    def drop(self, row):
        if row not in self.all:
            raise Refused("NoRow")
        self.all.remove(row)
        for house in self.houses_of(row):
            self.at[house].remove(row)

    def need_spans(self):
        if self.placing[0] != "spans":
            raise Refused("NoSpan")

    def split(self, low):
        self.need_spans()
        if self.move:
            raise Refused("Busy")
        kinds = dict(self.head)
        if isinstance(low, int) != (kinds[self.placing[1]] == "number"):
            raise Refused("NoSpan")
        if low in [cut[0] for cut in self.cuts()] or len(self.cuts()) == 8:
            raise Refused("NoSpan")
        row = [0] * len(self.head)
        row[self.place()] = low
        cuts = self.cuts() + [(low, self.cuts()[self.span(row)][1])]
        self.placing = self.placing[:2] + (tuple(cuts[:1] + sorted(cuts[1:])),)

    def lend(self, number, house):
        self.need_spans()
        if not 0 <= number < len(self.cuts()):
            raise Refused("NoSpan")
        if not 0 <= house < self.houses or self.cuts()[number][1] == house:
            raise Refused("NoHouse")
        if self.move:
            raise Refused("Busy")
        self.move = (number, house, None)

    def need_move(self):
        self.need_spans()
        if not self.move:
            raise Refused("NoMove")

    def waiting(self):
        number, house, mark = self.move
        here = self.at[self.cuts()[number][1]]
        return sorted(row for row in here if self.span(row) == number and (mark is None or row > mark))

    def carry(self, many):
        self.need_move()
        carried = 0
        for _ in range(many):
            rows = self.waiting()
            alike = rows[:rows.count(rows[0])] if rows else []
            self.at[self.move[1]].extend(alike)
            carried += len(alike)
            if alike:
                self.move = self.move[:2] + (alike[0],)
        return carried

    def settle(self):
        self.need_move()
        if self.waiting():
            raise Refused("NotYet")
        number, house, _ = self.move
        cuts = self.cuts()
        old = cuts[number][1]
        self.at[old] = [row for row in self.at[old] if self.span(row) != number]
        cuts[number] = (cuts[number][0], house)
        self.placing = self.placing[:2] + (tuple(cuts),)
        self.move = None


def made_row(chance, head):
    return tuple(chance.choice(VALUES[kind]) for _, kind in head)


def made_deed(chance, second, houses):
    word = chance.choice(("put", "put", "drop", "split", "lend", "lend", "carry", "carry", "settle"))
    if word == "put":
        return word, (made_row(chance, second.head),)
    if word == "drop":
        return word, (chance.choice(second.all + [made_row(chance, second.head)]),)
    if word == "split":
        return word, (chance.choice(VALUES["number"] + VALUES["word"]),)
    if word == "lend":
        return word, (chance.randrange(4), chance.randrange(houses + 1))
    return word, (chance.choice((0, 1, 2, 5)),) if word == "carry" else ()


def made_store(chance):
    houses = chance.choice((1, 2, 3, 4, 6))
    tables = made_tables(chance)
    given = {name: (head, made_placing(chance, head, houses), tables[name]) for name, head in HEADS.items()}
    # One at least is by spans of few cuts.
    given["r"] = (HEADS["r"], ("spans", "a", ((None, 0), (1, houses - 1))), tables["r"])
    seconds = {name: Second(houses, *table) for name, table in given.items()}
    return houses, Store(houses, given), seconds


def look(town, houses):
    return [(name, town.placing(name), [town.part(name, house) for house in range(houses)])
            for name in sorted(town.heads())]


class MadeStoresTest(unittest.TestCase):
    def setUp(self):
        self.seen = {}

    def count(self, what):
        self.seen[what] = self.seen.get(what, 0) + 1

    def deed(self, chance, houses, store, seconds):
        name = chance.choice(("r", "r", "s", "t"))
        word, given = made_deed(chance, seconds[name], houses)
        try:
            told = getattr(seconds[name], word)(*given)
        except Refused as refused:
            with self.assertRaises(ShardError) as taken:
                getattr(store, word)(name, *given)
            self.assertEqual(taken.exception.__class__.__name__, refused.args[0], (word, given))
            self.count(refused.args[0])
        else:
            self.assertEqual(getattr(store, word)(name, *given), told, (word, given))
            self.count(word)

    def compare(self, houses, store, seconds):
        for name, second in seconds.items():
            for house in range(houses):
                self.assertEqual(store.stands(name, house), sorted(second.at[house]), (name, house))
            self.assertEqual(store.moving(name), second.move)
            self.assertEqual(store.town().placing(name), second.placing)
            self.assertEqual(store.town().whole(name), sorted(second.all))

    def test_deeds(self):
        chance = random.Random(23)
        for _ in range(MANY_STORES):
            houses, store, seconds = made_store(chance)
            towns = []
            for number in range(MANY_DEEDS):
                self.deed(chance, houses, store, seconds)
                self.compare(houses, store, seconds)
                if number % 20 == 0:
                    towns.append((store.town(), look(store.town(), houses)))
            for town, seen in towns:
                self.assertEqual(look(town, houses), seen)
        for what in ("put", "drop", "split", "lend", "carry", "settle", "NoRow", "NoSpan", "Busy", "NoHouse", "NoMove",
                     "NotYet"):
            self.assertGreater(self.seen.get(what, 0), 20, self.seen)

    def test_runs_on_a_store_s_town_while_spans_move(self):
        chance = random.Random(24)
        answered = 0
        for _ in range(MANY_STORES * 4):
            houses, store, seconds = made_store(chance)
            for _ in range(10):
                self.deed(chance, houses, store, seconds)
            town = store.town()
            question = made(chance, chance.randint(1, 4))
            if size(question) > 20:
                continue
            try:
                plan = plan_of(town, question)
            except ShardError:
                continue
            answer = whole(HEADS, {name: list(second.all) for name, second in seconds.items()}, question)
            run = Run(town, plan)
            while not run.ended():
                run.do(chance.choice(run.ready()))
                self.deed(chance, houses, store, seconds)
                if chance.random() < 0.02:
                    run.fall(chance.randrange(houses))
            self.assertEqual(run.answer(), answer, question)
            self.compare(houses, store, seconds)
            answered += bool(answer)
        self.assertGreater(answered, 30)


if __name__ == "__main__":
    unittest.main()
