"""Made rows said to desks, from text to answer, against tables kept by hand."""

import random
import unittest

from shardask.desk import Desk
from shardask.errors import ShardError
from shardask.parts import sent
from shardask.planner import plan_of
from shardask.early import early
from shardask.showing import shown_question
from shardask.towns import Town
from tests.test_made_plans import made_placing
from tests.test_made_questions import HEADS, Refused, go, made, size
from tests.test_made_stores import Refused as StoreRefused
from tests.test_made_stores import Second, made_deed

MANY_DESKS = 40
MANY_ROWS = 60


def written(value):
    return f"'{value}'" if isinstance(value, str) else str(value)


def placing_text(placing):
    if placing[0] == "spans":
        cuts = [str(placing[2][0][1])] + [f"{written(low)}:{house}" for low, house in placing[2][1:]]
        return " ".join(["spans", placing[1]] + cuts)
    return " ".join(placing)


def table_text(name, head, placing):
    return " ".join(["table", name] + [f"{column}:{kind}" for column, kind in head] + [placing_text(placing)])


def deed_text(name, word, given):
    values = given[0] if word in ("put", "drop") else given
    return " ".join([word, name] + [written(value) for value in values])


class MadeDesksTest(unittest.TestCase):
    def setUp(self):
        self.seen = {}

    def count(self, what):
        self.seen[what] = self.seen.get(what, 0) + 1

    def test_from_text_to_answer(self):
        chance = random.Random(26)
        for _ in range(MANY_DESKS):
            houses = chance.randint(1, 6)
            desk, seconds = Desk(houses), {}
            for name, head in HEADS.items():
                placing = made_placing(chance, head, houses)
                self.assertEqual(desk.say(table_text(name, head, placing)), "ok")
                seconds[name] = Second(houses, head, placing, [])
            for _ in range(MANY_ROWS):
                self.deed(chance, desk, seconds, houses)
                if chance.random() < 0.5:
                    self.ask(chance, desk, seconds, houses)
        for what in ("put", "drop", "split", "lend", "carry", "settle", "NoRow", "NoSpan", "Busy", "NoHouse", "NoMove",
                     "NotYet", "NoColumn", "NoKind", "Twice", "NoTable", "TooWide"):
            self.assertGreater(self.seen.get(what, 0), 3, self.seen)
        for what in ("-", "rows", "cost"):
            self.assertGreater(self.seen.get(what, 0), 60, self.seen)

    def refuses(self, desk, row, name):
        with self.assertRaises(ShardError) as taken:
            desk.say(row)
        self.assertEqual(taken.exception.__class__.__name__, name, row)
        self.assertIsNone(taken.exception.act)
        self.count(name)

    def deed(self, chance, desk, seconds, houses):
        name = chance.choice(list(seconds))
        word, given = made_deed(chance, seconds[name], houses)
        try:
            told = getattr(seconds[name], word)(*given)
        except StoreRefused as refused:
            self.refuses(desk, deed_text(name, word, given), refused.args[0])
        else:
            self.assertEqual(desk.say(deed_text(name, word, given)), str(told) if word == "carry" else "ok")
            self.count(word)

    def ask(self, chance, desk, seconds, houses):
        question = made(chance, chance.randint(0, 4))
        if size(question) > 20:
            return
        text = shown_question(question)
        tables = {name: list(second.all) for name, second in seconds.items()}
        try:
            columns, rows = go(question, tables)
        except Refused as refused:
            self.refuses(desk, "ask " + text, refused.args[0])
            self.refuses(desk, "cost " + text, refused.args[0])
            return
        rows = [tuple(row[name] for name, _ in columns) for row in rows]
        rows = rows if question[0] == "first" else sorted(rows)
        answer = "; ".join(" ".join(written(value) for value in row) for row in rows) or "-"
        self.assertEqual(desk.say("ask " + text), answer, text)
        self.count("rows" if rows else "-")
        town = Town(houses, {name: (HEADS[name], second.placing, second.all) for name, second in seconds.items()})
        cost = sum(bundle[3] for bundle in sent(town, plan_of(town, early(HEADS, question))))
        self.assertEqual(desk.say("cost " + text), str(cost), text)
        if cost:
            self.count("cost")


if __name__ == "__main__":
    unittest.main()
