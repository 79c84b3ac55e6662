"""The plan of a question: each sort where it is sound as it is and where it is not."""

import unittest

from shardask.early import early
from shardask.errors import NoColumn, NoKind, NoQuestion, NoTable, ShardError, TooWide, Twice
from shardask.parts import sent, told
from shardask.planner import plan_of
from shardask.plans import senses
from shardask.towns import Town
from shardask.wholes import whole
from tests.things import STRANGE, STRANGE_TUPLES, UnchangedCase

HEAD = (("a", "number"), ("b", "word"), ("x", "number"))
OTHER = (("d", "number"), ("e", "word"), ("y", "number"))
ROWS = [(1, "p", 2), (1, "p", 2), (2, "q", 5), (7, "r", 0), (3, "p", 9)]
OTHERS = [(1, "p", 2), (2, "q", 4), (7, "p", 7), (2, "s", 5), (9, "r", 0)]
TOWN = Town(3, {
    "c": (HEAD, ("copies",), ROWS), "k": (HEAD, ("keys", "a"), ROWS), "kb": (HEAD, ("keys", "b"), ROWS),
    "s": (HEAD, ("spans", "a", ((None, 2), (2, 0), (5, 1))), ROWS),
    "oc": (OTHER, ("copies",), OTHERS), "ok": (OTHER, ("keys", "d"), OTHERS), "oe": (OTHER, ("keys", "e"), OTHERS),
    "os": (OTHER, ("spans", "e", ((None, 0), ("q", 2))), OTHERS),
})
COUNT = ("count", None, "n")
TEST = ("x", ">", ("value", 1))


def table(name):
    return ("table", name)


def brought(name):
    """A question at a house by its own plan: house 0."""
    return ("first", table(name), (), 60)


def brought_acts(name):
    return [("scan", name), ("cut", 0, (), 60), ("bring", 1, 0), ("merge", 2)]


class PlannerCase(UnchangedCase):
    def plans(self, plan, question, town=TOWN):
        made = self.unchanged(lambda asked: plan_of(town, asked), question)
        self.assertEqual(made, plan)
        self.assertIsInstance(made, list)
        self.holds(question, town)

    def holds(self, question, town=TOWN):
        """The plan is sound and has the answer; with tests moved early it sends no more, act by act."""
        plan, later = plan_of(town, question), plan_of(town, early(town.heads(), question))
        answer = whole(town.heads(), town.tables(), question)
        for made, asked in ((plan, question), (later, early(town.heads(), question))):
            self.assertEqual(senses(town, made)[-1][:2], (True, asked))
            self.assertEqual(told(town, made), answer)
        for few, many in zip(sent_by_acts(town, later), sent_by_acts(town, plan), strict=True):
            self.assertLessEqual(few, many, (plan, later))


def sent_by_acts(town, plan):
    bundles = sent(town, plan)
    return [sum(bundle[3] for bundle in bundles if bundle[0] == number) for number, act in enumerate(plan)
            if act[0] in ("deal", "copy", "bring")]


class AsTheyAreTest(PlannerCase):
    def test_table(self):
        for name in TOWN.heads():
            self.plans([("scan", name)], table(name))

    def test_where_keep_and_named(self):
        for name in ("c", "k", "s"):
            self.plans([("scan", name), ("where", 0, (TEST,))], ("where", table(name), (TEST,)))
            self.plans([("scan", name), ("keep", 0, ("b", "a"))], ("keep", table(name), ("b", "a")))
            self.plans([("scan", name), ("named", 0, ("f", "g", "h"))], ("named", table(name), ("f", "g", "h")))
            acts = brought_acts(name) if name != "c" else [("scan", "c"), ("first", 0, (), 60)]
            for act in (("where", (TEST,)), ("keep", ("x",)), ("named", ("f", "g", "h"))):
                self.plans(acts + [(act[0], len(acts) - 1, act[1])], (act[0], brought(name), act[1]))

    def test_numbers_one_behind_another(self):
        self.plans(
            [("scan", "k"), ("where", 0, (TEST,)), ("keep", 1, ("a", "b")), ("named", 2, ("f", "g"))],
            ("named", ("keep", ("where", table("k"), (TEST,)), ("a", "b")), ("f", "g")))


class GroupTest(PlannerCase):
    def test_sound_as_it_is(self):
        for names in ((), ("a",), ("b", "x")):
            self.plans([("scan", "c"), ("group", 0, names, (COUNT,))], ("group", table("c"), names, (COUNT,)))
            self.plans(brought_acts("s") + [("group", 3, names, (COUNT,))],
                       ("group", brought("s"), names, (COUNT,)))
        for names in (("a",), ("b", "a"), ("x", "b", "a")):
            self.plans([("scan", "k"), ("group", 0, names, (COUNT,))], ("group", table("k"), names, (COUNT,)))

    def test_else_part_deal_merge(self):
        for name, names in (("k", ("b",)), ("k", ("x", "b")), ("s", ("a",)), ("s", ("b", "a", "x")), ("kb", ("a",))):
            for sums in ((COUNT,), (), (("sum", "x", "n"), ("least", "b", "m"))):
                self.plans([("scan", name), ("part", 0, names, sums), ("deal", 1, names[0]), ("merge", 2)],
                           ("group", table(name), names, sums))

    def test_without_names_brought_to_house_nought(self):
        sums = (COUNT, ("most", "b", "m"))
        for name in ("k", "s"):
            self.plans([("scan", name), ("part", 0, (), sums), ("bring", 1, 0), ("merge", 2)],
                       ("group", table(name), (), sums))

    def test_dealt_column_lost(self):
        self.plans([("scan", "k"), ("keep", 0, ("b",)), ("part", 1, ("b",), (COUNT,)), ("deal", 2, "b"), ("merge", 3)],
                   ("group", ("keep", table("k"), ("b",)), ("b",), (COUNT,)))
        # Another column has its name now.
        self.plans([("scan", "k"), ("named", 0, ("x", "b", "a")), ("part", 1, ("a",), (COUNT,)), ("deal", 2, "a"),
                    ("merge", 3)], ("group", ("named", table("k"), ("x", "b", "a")), ("a",), (COUNT,)))

    def test_group_of_a_group(self):
        inner = ("group", table("s"), ("b", "a"), (COUNT,))
        acts = [("scan", "s"), ("part", 0, ("b", "a"), (COUNT,)), ("deal", 1, "b"), ("merge", 2)]
        self.plans(acts + [("group", 3, ("b",), ())], ("group", inner, ("b",), ()))
        self.plans(acts + [("part", 3, ("a",), ()), ("deal", 4, "a"), ("merge", 5)], ("group", inner, ("a",), ()))


class FirstTest(PlannerCase):
    def test_sound_as_it_is(self):
        for keys in ((), (("x", "down"),)):
            self.plans([("scan", "c"), ("first", 0, keys, 2)], ("first", table("c"), keys, 2))
            self.plans(brought_acts("k") + [("first", 3, keys, 2)], ("first", brought("k"), keys, 2))

    def test_else_cut_bring_merge(self):
        for name in ("k", "kb", "s"):
            for keys in ((), (("x", "down"),), (("b", "up"), ("a", "down"))):
                for many in (0, 1, 3, 60):
                    self.plans([("scan", name), ("cut", 0, keys, many), ("bring", 1, 0), ("merge", 2)],
                               ("first", table(name), keys, many))


class JoinTest(PlannerCase):
    PAIRS = (("a", "d"),)

    def joins(self, name, other, acts, pairs=PAIRS):
        self.plans([("scan", name), ("scan", other)] + acts, ("join", table(name), table(other), pairs))

    def test_sound_as_it_is(self):
        sound = [("c", other) for other in ("oc", "ok", "os")] + [(name, "oc") for name in ("k", "s")] + [("k", "ok")]
        for name, other in sound:
            self.joins(name, other, [("join", 0, 1, self.PAIRS)])
        for pairs in ((("b", "e"), ("a", "d")), (("x", "y"), ("b", "e"), ("a", "d"))):
            self.joins("k", "ok", [("join", 0, 1, pairs)], pairs)
        self.joins("kb", "oe", [("join", 0, 1, (("a", "d"), ("b", "e")))], (("a", "d"), ("b", "e")))

    def test_both_at_house_nought(self):
        other = [("scan", "os"), ("cut", 4, (), 60), ("bring", 5, 0), ("merge", 6)]
        self.plans(brought_acts("s") + other + [("join", 3, 7, self.PAIRS)],
                   ("join", brought("s"), brought("os"), self.PAIRS))

    def test_the_first_dealt_by_a_pair(self):
        for other in ("os", "oe"):
            self.joins("k", other, [("deal", 1, "d"), ("join", 0, 2, self.PAIRS)])
        # The pair that fits is not the first one.
        for pairs in ((("b", "e"), ("a", "d")), (("x", "y"), ("b", "e"), ("a", "d")), (("b", "e"), ("a", "y"))):
            self.joins("k", "os", [("deal", 1, dict(pairs)["a"]), ("join", 0, 2, pairs)], pairs)

    def test_both_dealt_by_unlike_pairs(self):
        # The first one's pair is taken.
        pairs = (("b", "e"), ("a", "d"))
        self.joins("k", "oe", [("deal", 1, "d"), ("join", 0, 2, pairs)], pairs)
        self.joins("kb", "ok", [("deal", 1, "e"), ("join", 0, 2, pairs)], pairs)
        pairs = (("a", "y"), ("x", "d"))
        self.joins("k", "ok", [("deal", 1, "y"), ("join", 0, 2, pairs)], pairs)

    def test_the_other_dealt_by_a_pair(self):
        self.joins("s", "ok", [("deal", 0, "a"), ("join", 2, 1, self.PAIRS)])
        self.joins("kb", "ok", [("deal", 0, "a"), ("join", 2, 1, self.PAIRS)])
        for pairs in ((("b", "e"), ("x", "d")), (("a", "y"), ("b", "e"), ("x", "d"))):
            self.joins("s", "ok", [("deal", 0, "x"), ("join", 2, 1, pairs)], pairs)
        # The first one is dealt too, but by no pair.
        self.joins("k", "ok", [("deal", 0, "x"), ("join", 2, 1, (("x", "d"),))], (("x", "d"),))

    def test_neither(self):
        for name, other in (("s", "os"), ("s", "oe"), ("kb", "os"), ("kb", "oe")):
            self.joins(name, other, [("deal", 0, "a"), ("deal", 1, "d"), ("join", 2, 3, self.PAIRS)])
        pairs = (("x", "y"), ("a", "d"))
        self.joins("s", "os", [("deal", 0, "x"), ("deal", 1, "y"), ("join", 2, 3, pairs)], pairs)
        # Both are dealt, by columns of no pair.
        self.joins("k", "ok", [("deal", 0, "b"), ("deal", 1, "e"), ("join", 2, 3, (("b", "e"),))], (("b", "e"),))

    def test_at_a_house_and_elsewhere(self):
        acts = brought_acts("s") + [("scan", "ok")]
        self.plans(acts + [("deal", 3, "a"), ("join", 5, 4, self.PAIRS)],
                   ("join", brought("s"), table("ok"), self.PAIRS))
        acts = brought_acts("s") + [("scan", "os")]
        self.plans(acts + [("deal", 3, "a"), ("deal", 4, "d"), ("join", 5, 6, self.PAIRS)],
                   ("join", brought("s"), table("os"), self.PAIRS))

    def test_one_table_with_itself(self):
        pairs = (("a", "a"), ("b", "b"), ("x", "x"))
        for name in ("c", "k", "kb"):
            self.joins(name, name, [("join", 0, 1, pairs)], pairs)
        self.joins("s", "s", [("deal", 0, "a"), ("deal", 1, "a"), ("join", 2, 3, pairs)], pairs)
        other = ("named", table("k"), ("f", "g", "h"))
        self.plans([("scan", "k"), ("scan", "k"), ("named", 1, ("f", "g", "h")), ("join", 0, 2, (("a", "f"),))],
                   ("join", table("k"), other, (("a", "f"),)))
        self.plans([("scan", "k"), ("scan", "k"), ("named", 1, ("f", "g", "h")), ("deal", 2, "h"),
                    ("join", 0, 3, (("a", "h"),))], ("join", table("k"), other, (("a", "h"),)))

    def test_acts_of_the_other_stand_behind(self):
        first = ("where", table("s"), (TEST,))
        other = ("group", table("os"), ("e",), (COUNT,))
        self.plans([("scan", "s"), ("where", 0, (TEST,)), ("scan", "os"), ("part", 2, ("e",), (COUNT,)),
                    ("deal", 3, "e"), ("merge", 4), ("deal", 1, "b"), ("join", 6, 5, (("b", "e"),))],
                   ("join", first, other, (("b", "e"),)))


class WholePlansTest(PlannerCase):
    def test_the_longest(self):
        question = table("s")
        for number in range(19):
            question = ("group", question, ("ab"[number % 2],), (("most", "ab"[number % 2], "ab"[1 - number % 2]),))
        plan = plan_of(TOWN, question)
        self.assertLessEqual(len(plan), 60)
        self.assertEqual(len(plan), 58)
        self.holds(question)

    def test_towns_of_one_to_six_houses(self):
        question = ("first", ("group", ("join", table("s"), table("ok"), (("a", "d"),)), ("e",), (COUNT,)),
                    (("n", "down"),), 3)
        for houses in range(1, 7):
            town = Town(houses, {
                "s": (HEAD, ("spans", "x", ((None, 0), (3, houses - 1))), ROWS),
                "ok": (OTHER, ("keys", "d"), OTHERS)})
            self.holds(question, town)
            self.assertEqual(len(plan_of(town, question)), 10)

    def test_tests_moved_early_send_less(self):
        question = ("where", ("join", table("s"), table("os"), (("a", "d"),)), (("b", "=", ("value", "q")),))
        self.holds(question)
        moved = plan_of(TOWN, early(TOWN.heads(), question))
        self.assertLess(sum(sent_by_acts(TOWN, moved)), sum(sent_by_acts(TOWN, plan_of(TOWN, question))))

    def test_the_list_is_the_asker_s_own(self):
        question = ("group", table("s"), ("b",), (COUNT,))
        plan = plan_of(TOWN, question)
        kept = list(plan)
        plan.clear()
        self.assertEqual(plan_of(TOWN, question), kept)


class RefusedTest(unittest.TestCase):
    def refuses(self, error, question, town=TOWN):
        with self.assertRaises(ShardError) as taken:
            plan_of(town, question)
        self.assertIs(taken.exception.__class__, error, question)
        self.assertIsNone(taken.exception.act)

    def test_as_head_of(self):
        faults = [
            (table("none"), NoTable), (("keep", table("s"), ("zz",)), NoColumn),
            (("named", table("s"), ("f",)), NoColumn), (("where", table("s"), (("b", "=", ("value", 1)),)), NoKind),
            (("group", table("k"), (), (("sum", "b", "n"),)), NoKind), (("keep", table("k"), ("a", "a")), Twice),
            (("join", table("s"), table("k"), (("a", "a"),)), Twice), (("group", table("s"), (), ()), TooWide),
            (("first", table("s"), (("zz", "up"),), 1), NoColumn),
            (("join", table("s"), table("os"), (("a", "e"),)), NoKind),
        ]
        for question, error in faults:
            self.refuses(error, question)
            self.refuses(error, ("first", question, (), 1))
            self.refuses(error, ("join", question, table("none"), (("a", "a"),)))
            self.refuses(error, ("join", table("c"), question, (("a", "a"),)))

    def test_what_is_no_question(self):
        for thing in STRANGE + STRANGE_TUPLES + ["table", ("table", "by"), ("scan", "s"), ["table", "s"]]:
            self.refuses(NoQuestion, thing)
            self.refuses(NoQuestion, ("first", thing, (), 1))
            self.refuses(NoQuestion, ("join", table("none"), thing, (("a", "a"),)))
            self.refuses(NoQuestion, thing, Town(1, {}))

    def test_a_size_above_twenty(self):
        question = table("none")
        for _ in range(20):
            question = ("first", question, (), 1)
        self.refuses(NoQuestion, question)
        self.refuses(NoTable, question[1])


if __name__ == "__main__":
    unittest.main()
