"""What a plan is: each sort of act, right and with each of its parts wrong in turn."""

import time
import unittest

from shardask.errors import NoColumn, NoHouse, NoPlan, NoTable, ShardError, Unsound
from shardask.plans import senses
from shardask.towns import Town
from tests.things import STRANGE, STRANGE_TUPLES, Sulky, UnchangedCase

HEADS = {
    "c": (("a", "number"), ("b", "word"), ("x", "number")),
    "k": (("d", "number"), ("e", "word")),
}
TOWN = Town(3, {
    "c": (HEADS["c"], ("copies",), [(1, "p", 2)]),
    "k": (HEADS["k"], ("keys", "d"), [(1, "p"), (2, "q")]),
})
BIG = 10 ** 60 - 1
TEST = ("a", "=", ("value", 1))
PAIR = ("a", "d")
COUNT = ("count", None, "n")
NO_NAMES = ["", "A", "a b", "abcdefghi", "a1", "where", "on", "table", 1, None, True, ("a",), ["a"], b"a", Sulky()]
# With three acts ahead of it: none of these is the number of one.
NO_ACTS = STRANGE + STRANGE_TUPLES + [
    -1, -3, 3, 4, 60, BIG, -BIG, "", "0", "a", (0,), [0], ("scan", "c"), ("table", "c")]
SCAN, OTHER = ("scan", "c"), ("scan", "k")
# A whole act, a half one and another whole one stand ahead of the act that is tried.
AHEAD = [SCAN, ("part", 0, ("a",), (COUNT,)), OTHER]
RIGHT = (
    SCAN, ("where", 0, (TEST,)), ("keep", 0, ("a",)), ("named", 0, ("f", "g", "h")), ("join", 2, 0, (("d", "a"),)),
    ("group", 0, ("a",), (COUNT,)), ("first", 0, (("a", "up"),), 3), ("part", 2, ("e",), (COUNT,)),
    ("cut", 2, (("e", "down"),), 60), ("merge", 1), ("deal", 2, "e"), ("copy", 2), ("bring", 2, 1),
)


class PlansCase(UnchangedCase):
    def accept(self, *acts):
        for act in acts:
            with self.subTest(act):
                self.assertEqual(len(self.unchanged(lambda plan: senses(TOWN, plan), AHEAD + [act])), 4)

    def refuse_plan(self, plan):
        with self.assertRaises(NoPlan) as taken:
            senses(TOWN, plan)
        self.assertIsNone(taken.exception.act)

    def refuse(self, *acts):
        for act in acts:
            self.refuse_plan(AHEAD + [act])
            self.refuse_plan(AHEAD + [act, SCAN])

    def refuse_each(self, build, parts):
        for part in parts:
            self.refuse(build(part))


class ListTest(PlansCase):
    def test_one_to_sixty_acts(self):
        for many in (1, 2, 59, 60):
            self.assertEqual(len(senses(TOWN, [SCAN] * many)), many)
        for many in (0, 61, 62, 1000):
            self.refuse_plan([SCAN] * many)

    def test_sixty_acts_that_hang_together(self):
        plan = [OTHER] + [("copy", number) for number in range(59)]
        self.assertEqual(len(senses(TOWN, plan)), 60)
        self.refuse_plan(plan + [("copy", 59)])

    def test_what_is_no_list(self):
        for plan in STRANGE + STRANGE_TUPLES + ["", "scan", 0, SCAN, (SCAN,), {0: SCAN}, {SCAN: 0}, {SCAN}]:
            self.refuse_plan(plan)

    def test_what_is_no_act(self):
        for act in STRANGE + STRANGE_TUPLES + ["", "scan", 0, ["scan", "c"], [SCAN], (SCAN,), {"scan": "c"}]:
            self.refuse(act)
            self.refuse_plan([act])
            self.refuse_plan([act, SCAN])

    def test_a_plan_within_itself(self):
        plan = [SCAN]
        plan.append(plan)
        self.refuse_plan(plan)


class FormTest(PlansCase):
    def test_each_sort_right(self):
        self.accept(*RIGHT)

    def test_other_lengths(self):
        for act in RIGHT:
            for end in range(len(act)):
                self.refuse(act[:end])
            for more in (None, (), 0, "a", (TEST,)):
                self.refuse(act + (more,))
            self.refuse(list(act), act[1:], (act,))

    def test_other_words(self):
        for act in RIGHT:
            for word in ("", "Scan", "table", "scans", "send", "count", "value", None, 0, True, ("scan",), ["join"],
                         Sulky(), b"scan"):
                self.refuse((word,) + act[1:])

    def test_words_of_acts_of_another_form(self):
        self.refuse(("scan", 0), ("merge", "c"), ("copy", "c"), ("deal", 0, 1), ("bring", 0, "a"), ("cut", 0, ("a",)),
                    ("part", 0, (("a", "up"),), 3), ("first", 0, ("a",), (COUNT,)), ("where", 0, ("a",)),
                    ("keep", 0, (TEST,)), ("join", 0, (PAIR,)), ("table", "c"), ("where", SCAN, (TEST,)),
                    ("where", ("table", "c"), (TEST,)), ("keep", ("table", "c"), ("a",)),
                    ("join", ("table", "c"), ("table", "k"), (PAIR,)))

    def test_scan(self):
        self.refuse_each(lambda name: ("scan", name), NO_NAMES + STRANGE + STRANGE_TUPLES)

    def test_numbers_of_acts(self):
        for act in RIGHT[1:]:
            self.refuse_each(lambda number: act[:1] + (number,) + act[2:], NO_ACTS)
        self.refuse_each(lambda number: ("join", 2, number, (("d", "a"),)), NO_ACTS)
        self.refuse_each(lambda number: ("join", number, number, (("d", "a"),)), NO_ACTS)

    def test_an_act_ahead(self):
        plan = [SCAN, ("keep", 0, ("a",)), ("keep", 1, ("a",)), ("keep", 0, ("b",))]
        self.assertEqual(len(senses(TOWN, plan)), 4)
        for number in (0, 1, 2):
            self.refuse_plan([("keep", number, ("a",)), SCAN, SCAN])
        self.refuse_plan([SCAN, ("keep", 1, ("a",))])
        self.refuse_plan([SCAN, ("keep", 2, ("a",)), SCAN])
        self.refuse_plan([SCAN, SCAN, ("join", 0, 2, (PAIR,))])
        self.refuse_plan([("merge", 0)])

    def test_where(self):
        self.accept(("where", 0, (TEST, TEST, TEST)), ("where", 0, (("a", "<", ("column", "x")),)))
        self.refuse(("where", 0, ()), ("where", 0, (TEST,) * 4))
        self.refuse_each(lambda tests: ("where", 0, tests), STRANGE + [TEST, [TEST], "abc", 1])
        self.refuse_each(lambda test: ("where", 0, (test,)), STRANGE + STRANGE_TUPLES + [list(TEST), TEST[:2], "a=1"])
        self.refuse_each(lambda name: ("where", 0, ((name, "=", ("value", 1)),)), NO_NAMES)
        self.refuse_each(lambda sign: ("where", 0, (("a", sign, ("value", 1)),)), ["", "==", "<=", None, 0, ["="]])
        self.refuse_each(lambda other: ("where", 0, (("a", "=", other),)), STRANGE + [1, "b", ("b",), ("name", "b")])
        self.refuse_each(lambda value: ("where", 0, (("a", "=", ("value", value)),)), STRANGE + ["A", "abcdefghi"])
        self.refuse_each(lambda name: ("where", 0, (("a", "=", ("column", name)),)), NO_NAMES)

    def test_keep_and_named(self):
        for word in ("keep", "named"):
            self.refuse((word, 0, ()), (word, 0, tuple("abcdefghi")))
            self.refuse_each(lambda names: (word, 0, names), STRANGE + [["a"], "a", "abc", 1])
            self.refuse_each(lambda name: (word, 0, (name,)), NO_NAMES + STRANGE)
            self.refuse_each(lambda name: (word, 0, ("a", name)), NO_NAMES)

    def test_join(self):
        self.accept(("join", 2, 0, (("d", "a"), ("e", "b"))), ("join", 0, 0, (("a", "a"), ("b", "b"), ("x", "x"))))
        self.refuse(("join", 0, 2, ()), ("join", 0, 2, (PAIR,) * 4))
        self.refuse_each(lambda pairs: ("join", 0, 2, pairs), STRANGE + [PAIR, [PAIR], "ab", 1])
        self.refuse_each(lambda pair: ("join", 0, 2, (pair,)), STRANGE + STRANGE_TUPLES + [["a", "d"], ("a",), "ab"])
        self.refuse_each(lambda name: ("join", 0, 2, ((name, "d"),)), NO_NAMES)
        self.refuse_each(lambda name: ("join", 0, 2, (("a", name),)), NO_NAMES)

    def test_group_and_part(self):
        for word in ("group", "part"):
            self.accept((word, 0, (), (COUNT,)), (word, 0, ("a", "b"), ()))
            self.accept((word, 0, (), (COUNT, ("sum", "a", "s"), ("least", "b", "l"), ("most", "a", "m"))))
            self.refuse((word, 0, tuple("abcdefghi"), ()), (word, 0, ("a",), (COUNT,) * 5))
            self.refuse_each(lambda names: (word, 0, names, (COUNT,)), STRANGE + [["a"], "a", 1])
            self.refuse_each(lambda name: (word, 0, (name,), (COUNT,)), NO_NAMES)
            self.refuse_each(lambda sums: (word, 0, ("a",), sums), STRANGE + [COUNT, [COUNT], "abc", 1])
            self.refuse_each(lambda part: (word, 0, ("a",), (part,)), STRANGE + STRANGE_TUPLES + [list(COUNT), "abc"])
            self.refuse(*[(word, 0, ("a",), (part,)) for part in (
                ("count", "a", "n"), ("sum", None, "n"), ("least", None, "n"), ("mean", "a", "n"), ("sum", "a"))])
            self.refuse_each(lambda name: (word, 0, ("a",), (("count", None, name),)), NO_NAMES)

    def test_first_and_cut(self):
        for word in ("first", "cut"):
            self.accept((word, 0, (), 0), (word, 0, (("a", "up"), ("b", "down"), ("x", "up")), 60))
            self.refuse((word, 0, (("a", "up"),) * 4, 1))
            self.refuse_each(lambda keys: (word, 0, keys, 1), STRANGE + [("a", "up"), [("a", "up")], "a", 1])
            self.refuse_each(lambda key: (word, 0, (key,), 1), STRANGE + STRANGE_TUPLES + [["a", "up"], ("a",), "au"])
            self.refuse_each(lambda name: (word, 0, ((name, "up"),), 1), NO_NAMES)
            self.refuse_each(lambda way: (word, 0, (("a", way),), 1), ["", "Up", "left", None, 1, ["up"], Sulky()])
            self.refuse_each(lambda many: (word, 0, (), many), STRANGE + [-1, 61, BIG, "1", (1,)])

    def test_deal(self):
        self.refuse_each(lambda name: ("deal", 2, name), NO_NAMES + STRANGE + STRANGE_TUPLES)

    def test_bring(self):
        self.refuse_each(lambda house: ("bring", 2, house), STRANGE + STRANGE_TUPLES + ["", "0", "a", (0,), [0]])


class AheadOfAllElseTest(PlansCase):
    FAULTS = ((("scan", "none"), NoTable), (("keep", 0, ("zz",)), NoColumn), (("deal", 0, "zz"), NoColumn),
              (("bring", 0, 3), NoHouse), (("merge", 0), Unsound))

    def test_whatever_is_wrong_ahead_or_behind(self):
        for act, error in self.FAULTS:
            with self.assertRaises(ShardError) as taken:
                senses(TOWN, AHEAD + [act, SCAN])
            self.assertIs(taken.exception.__class__, error)
            self.assertEqual(taken.exception.act, 3)
            for wrong in (("scan", 1), ("keep", 9, ("a",)), ("bring", 0, True), ("keep", 0, ()), None, Sulky()):
                self.refuse_plan(AHEAD + [act, wrong])
                self.refuse_plan(AHEAD + [wrong, act])
                self.refuse_plan([act, wrong])
                self.refuse_plan([wrong, act])
            self.refuse_plan(AHEAD + [act] * 58)

    def test_in_one_act(self):
        self.refuse_plan([("scan", "none"), ("keep", 1, ("zz",))])
        self.refuse_plan([SCAN, ("keep", 0, ("zz", "A"))])
        self.refuse_plan([SCAN, ("bring", 5, 7)])


class SoonTest(PlansCase):
    def test_a_long_thing_is_told_soon(self):
        started = time.monotonic()
        self.refuse_plan([SCAN] * 1000000)
        self.refuse(("keep", 0, ("a",) * 1000000), ("scan",) * 1000000)
        self.assertLess(time.monotonic() - started, 5)


class OwnListsTest(PlansCase):
    def test_a_told_list_is_the_asker_s_own(self):
        plan = list(AHEAD)
        told = senses(TOWN, plan)
        kept = list(told)
        told.append("more")
        told.reverse()
        self.assertEqual(plan, AHEAD)
        self.assertEqual(senses(TOWN, plan), kept)

    def test_what_was_handed_in_is_changed(self):
        plan = list(AHEAD)
        told = senses(TOWN, plan)
        kept = list(told)
        plan.clear()
        self.assertEqual(told, kept)

    def test_the_town_stays_as_it_was(self):
        before = (TOWN.heads(), TOWN.tables())
        for act in RIGHT:
            senses(TOWN, AHEAD + [act])
        self.assertEqual((TOWN.heads(), TOWN.tables()), before)


if __name__ == "__main__":
    unittest.main()
