"""Made sound plans, their parts, what they send, their answers and their runs; and the planner's plans."""

import random
import unittest

from shardask.early import early
from shardask.errors import NotEnded, NotReady, ShardError
from shardask.parts import parts, sent, told
from shardask.planner import plan_of
from shardask.plans import senses
from shardask.questions import head_of
from shardask.runs import Run
from shardask.values import home
from shardask.wholes import rows_of, whole
from tests.test_early import made_with_tests
from tests.test_made_plans import SECOND, done, made_act, made_town, second_way
from tests.test_made_questions import HEADS, Refused, size

MANY_PLANS = 250
MANY_RUNS = 120
MANY_QUESTIONS = 2200


def made_plan(chance, town, long):
    """Sound, act by act."""
    plan = [("scan", name) for name in HEADS]
    meanings = second_way(town, plan)
    while len(plan) < long:
        act = made_act(chance, town, plan, meanings)
        try:
            meanings = second_way(town, plan + [act])
        except Refused:
            continue
        plan.append(act)
    return plan, meanings


def bundles_of(town, plan, meanings, made_parts):
    """What each house sends to each other one, by the words of the document and the rows ahead."""
    bundles = {}
    for number, act in enumerate(plan):
        if act[0] not in ("deal", "copy", "bring") or meanings[act[1]][2] == ("copied",):
            continue
        names = [name for name, _ in head_of(town.heads(), meanings[number][1])]
        for here in range(town.houses()):
            for to in range(town.houses()):
                if here == to or (act[0] == "bring" and to != act[2]):
                    continue
                rows = made_parts[act[1]][here]
                if act[0] == "deal":
                    rows = [row for row in rows if home(row[names.index(act[2])], town.houses()) == to]
                bundles[(number, here, to)] = len(rows)
    return bundles


class MadePartsTest(unittest.TestCase):
    def test_parts_sent_and_told(self):
        chance = random.Random(17)
        seen = {}
        for _ in range(MANY_PLANS):
            town = made_town(chance)
            plan, meanings = made_plan(chance, town, 12)
            second = [[sorted(rows) for rows in act] for act in done(town, plan, meanings)]
            self.assertEqual(parts(town, plan), second, plan)
            bundles = bundles_of(town, plan, meanings, second)
            self.assertEqual(sent(town, plan), sorted(key + (many,) for key, many in bundles.items() if many), plan)
            for number in range(3, len(plan)):
                self.compare_told(town, plan[:number + 1], meanings[number], second[number])
                seen[plan[number][0]] = seen.get(plan[number][0], 0) + 1
        for word in SECOND:
            self.assertGreater(seen[word], 30, seen)

    def compare_told(self, town, plan, sense, rows):
        is_whole, question, spread = sense
        if not is_whole:
            with self.assertRaises(ShardError) as taken:
                told(town, plan)
            self.assertEqual((taken.exception.__class__.__name__, taken.exception.act), ("Unsound", len(plan) - 1))
            return
        self.assertEqual(told(town, plan), whole(town.heads(), town.tables(), question), plan)
        together = rows if spread == ("copied",) else [sorted(row for part in rows for row in part)]
        for part in together:
            self.assertEqual(part, rows_of(town.heads(), town.tables(), question), plan)


class MadeRunsTest(unittest.TestCase):
    def test_any_order_without_falls(self):
        chance = random.Random(21)
        for _ in range(MANY_RUNS):
            town, plan, meanings = self.made(chance)
            run = Run(town, plan)
            self.go(chance, run, 0)
            bundles = bundles_of(town, plan, meanings, parts(town, plan))
            self.assertEqual(sorted(run.log()), sorted(key + (many,) for key, many in bundles.items()))
            self.assertEqual(sorted(entry for entry in run.log() if entry[3]), sent(town, plan))
            self.holds_at_the_end(town, plan, run)

    def test_any_order_with_falls(self):
        chance = random.Random(22)
        for _ in range(MANY_RUNS):
            town, plan, meanings = self.made(chance)
            run = Run(town, plan)
            falls = self.go(chance, run, chance.choice((1, 2, 3, 9)))
            self.comes_once_between_falls(run, falls)
            self.holds_at_the_end(town, plan, run)

    def made(self, chance):
        town = made_town(chance)
        plan, meanings = made_plan(chance, town, chance.randint(4, 12))
        while not meanings[-1][0]:
            plan, meanings = plan[:-1], meanings[:-1]
        return town, plan, meanings

    def go(self, chance, run, falls_left):
        """Tells the falls: (how long the log was, the house)."""
        falls = []
        houses = run.course.ground.houses()
        while not run.ended():
            ready = run.ready()
            self.assertTrue(ready)
            self.assertEqual(ready, sorted(ready))
            deed = chance.choice(ready + ready[:1] * 3 + ready[-1:] * 3)
            left = run.left()
            with self.assertRaises(NotEnded):
                run.answer()
            run.do(deed)
            self.assertEqual(run.left(), left - 1)
            with self.assertRaises(NotReady):
                run.do(deed)
            if falls_left and chance.random() < 0.1:
                falls_left -= 1
                falls.append((len(run.log()), chance.randrange(houses)))
                run.fall(falls[-1][1])
        self.assertEqual((run.left(), run.ready()), (0, []))
        return falls

    def comes_once_between_falls(self, run, falls):
        last = {}
        for place, entry in enumerate(run.log()):
            before = last.get(entry[:3])
            if before is not None:
                self.assertTrue(any(before[0] < many <= place and house == entry[2] for many, house in falls), entry)
                self.assertEqual(before[1], entry[3])
            last[entry[:3]] = (place, entry[3])

    def holds_at_the_end(self, town, plan, run):
        self.assertEqual(run.answer(), told(town, plan))
        for number, act in enumerate(parts(town, plan)):
            self.assertEqual([run.there(number, house) for house in range(town.houses())], act)


def second_plan(town, question):
    """The planner's plan, by another way: tried as it is by `senses`, else written as the document says."""
    plan = []

    def spread(number):
        return senses(town, plan)[number][2]

    def put(*act):
        plan.append(act)
        return len(plan) - 1

    def is_sound(*act):
        try:
            senses(town, plan + [act])
        except ShardError:
            return False
        return True

    def within(asked):
        word, rest = asked[0], asked[1:]
        if word == "table":
            return put("scan", *rest)
        x = within(rest[0])
        if word == "join":
            y = within(rest[1])
            pairs = rest[2]
            if not is_sound("join", x, y, pairs):
                by_x = [d for c, d in pairs if spread(x) == ("dealt", c)]
                by_y = [c for c, d in pairs if spread(y) == ("dealt", d)]
                if by_x:
                    y = put("deal", y, by_x[0])
                elif by_y:
                    x = put("deal", x, by_y[0])
                else:
                    x = put("deal", x, pairs[0][0])
                    y = put("deal", y, pairs[0][1])
            return put("join", x, y, pairs)
        if is_sound(word, x, *rest[1:]):
            return put(word, x, *rest[1:])
        half = put({"group": "part", "first": "cut"}[word], x, *rest[1:])
        if word == "group" and rest[1]:
            return put("merge", put("deal", half, rest[1][0]))
        return put("merge", put("bring", half, 0))

    within(question)
    return plan


def sent_in_order(town, plan):
    bundles = sent(town, plan)
    return [sum(many for act, _, _, many in bundles if act == number) for number, act in enumerate(plan)
            if act[0] in ("deal", "copy", "bring")]


class MadePlannerTest(unittest.TestCase):
    def test_planner(self):
        chance = random.Random(19)
        seen = {"refused": 0, "rows": 0, "less": 0, "sent": 0}
        for _ in range(MANY_QUESTIONS):
            town = made_town(chance)
            question = made_with_tests(chance)
            if size(question) > 20:
                continue
            try:
                head_of(town.heads(), question)
            except ShardError as refused:
                with self.assertRaises(refused.__class__) as taken:
                    plan_of(town, question)
                self.assertIsNone(taken.exception.act)
                seen["refused"] += 1
                continue
            self.compare(town, question, seen)
        for many in seen.values():
            self.assertGreater(many, 25, seen)

    def compare(self, town, question, seen):
        moved = early(town.heads(), question)
        plan, later = plan_of(town, question), plan_of(town, moved)
        answer = whole(town.heads(), town.tables(), question)
        for asked, one in ((question, plan), (moved, later)):
            self.assertEqual(one, second_plan(town, asked))
            self.assertEqual(senses(town, one)[-1][:2], (True, asked))
            self.assertEqual(told(town, one), answer)
        many, few = sent_in_order(town, plan), sent_in_order(town, later)
        self.assertEqual(len(many), len(few))
        self.assertTrue(all(less <= more for less, more in zip(few, many)), (plan, later))
        seen["rows"] += bool(answer)
        seen["sent"] += sum(many) > 0
        seen["less"] += sum(few) < sum(many)


if __name__ == "__main__":
    unittest.main()
