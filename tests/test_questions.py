import time
import unittest

from shardask.errors import NoQuestion, ShardError
from shardask.questions import checked, head_of
from shardask.wholes import rows_of, whole
from tests.things import STRANGE, STRANGE_TUPLES, Sulky, UnchangedCase

T = ("table", "t")
TEST = ("a", "=", ("value", 1))
BIG = 10 ** 60 - 1
EIGHT = ("a", "b", "c", "d", "e", "f", "g", "h")
NO_NAMES = ["", "A", "a b", "abcdefghi", "a1", "where", "on", "table", 1, None, True, ("a",), ["a"], b"a", Sulky()]


class CheckedCase(UnchangedCase):
    def accept(self, *questions):
        for question in questions:
            with self.subTest(repr(question)[:200]):
                self.assertEqual(self.unchanged(checked, question), question)

    def refuse(self, *things):
        for thing in things:
            with self.assertRaises(NoQuestion) as taken:
                checked(thing)
            self.assertIsNone(taken.exception.act)
            self.assertIsInstance(taken.exception, ShardError)

    def refuse_each(self, build, parts):
        for part in parts:
            self.refuse(build(part))

    def refuse_other_lengths(self, question):
        """A part less or more, a list in the tuple's place, and another first word."""
        for end in range(len(question)):
            self.refuse(question[:end])
        for more in (None, (), T, 0):
            self.refuse(question + (more,))
        self.refuse(list(question), question[1:], (question,))
        for word in ("", "Table", "tables", "select", "value", None, 0, True, ("table",), ["join"], Sulky(), b"first"):
            self.refuse((word,) + question[1:])

    def refuse_inner(self, build):
        """What is no question within one is refused as by itself."""
        for thing in STRANGE + STRANGE_TUPLES + ["t", 1, "table", ("table",), ("table", "where"), ["table", "t"]]:
            self.refuse(build(thing))


class TableTest(CheckedCase):
    def test_right(self):
        self.accept(T, ("table", "abcdefgh"), ("table", "number"))

    def test_wrong(self):
        self.refuse_other_lengths(T)
        self.refuse_each(lambda name: ("table", name), NO_NAMES + STRANGE)


class WhereTest(CheckedCase):
    def with_test(self, test):
        return ("where", T, (test,))

    def test_signs_and_others(self):
        for sign in "=<>!":
            for other in (("value", 0), ("value", -BIG), ("value", ""), ("value", "abcdefgh"), ("value", "where"),
                          ("column", "a"), ("column", "b")):
                self.accept(self.with_test(("a", sign, other)))

    def test_one_to_three_tests(self):
        for many in range(6):
            question = ("where", T, (TEST,) * many)
            self.accept(question) if 1 <= many <= 3 else self.refuse(question)

    def test_wrong_parts(self):
        self.refuse_other_lengths(("where", T, (TEST,)))
        self.refuse_inner(lambda thing: ("where", thing, (TEST,)))
        self.refuse_each(lambda tests: ("where", T, tests), STRANGE + [TEST, [TEST], "abc", 1, {TEST: 1}])
        self.refuse_each(self.with_test, STRANGE + STRANGE_TUPLES + [list(TEST), TEST[:2], TEST + (1,), (TEST,), "a=1"])
        self.refuse_each(lambda name: self.with_test((name,) + TEST[1:]), NO_NAMES)
        signs = ["", "==", "<=", ">=", "!=", "<>", "~", " =", 0, None, ("=",), ["="], b"=", Sulky()]
        self.refuse_each(lambda sign: self.with_test(("a", sign, ("value", 1))), signs)

    def test_wrong_others(self):
        others = STRANGE + STRANGE_TUPLES + [
            1, "a", ("value",), ("column",), ("value", 1, 1), ("column", "a", "b"), ["value", 1], ["column", "a"],
            ("Value", 1), ("name", "a"), ("", 1), (1, "value"), ("a", "column"),
        ]
        self.refuse_each(lambda other: self.with_test(("a", "=", other)), others)
        values = STRANGE + STRANGE_TUPLES + ["A", "abcdefghi", "a b", " ", "1", (1,), ("a",)]
        self.refuse_each(lambda value: self.with_test(("a", "=", ("value", value))), values)
        self.refuse_each(lambda name: self.with_test(("a", "=", ("column", name))), NO_NAMES)

    def test_a_later_test_wrong(self):
        for wrong in (("a", "=", 1), ("", "=", ("value", 1)), None):
            self.refuse(("where", T, (TEST, wrong)), ("where", T, (TEST, TEST, wrong)), ("where", T, (wrong, TEST)))


class NamesTest(CheckedCase):
    """keep and named are alike in form."""

    def test_one_to_eight_names(self):
        for word in ("keep", "named"):
            self.accept((word, T, ("a",)), (word, T, ("a", "a")), (word, T, EIGHT))
            self.refuse((word, T, ()), (word, T, EIGHT + ("i",)), (word, T, ("a",) * 9))

    def test_wrong_parts(self):
        for word in ("keep", "named"):
            self.refuse_other_lengths((word, T, ("a",)))
            self.refuse_inner(lambda thing: (word, thing, ("a",)))
            self.refuse_each(lambda names: (word, T, names), STRANGE + [["a"], "a", "abc", {"a": 1}, 1])
            self.refuse_each(lambda name: (word, T, (name,)), NO_NAMES + STRANGE)
            self.refuse_each(lambda name: (word, T, ("a", "b", name)), NO_NAMES)


class JoinTest(CheckedCase):
    PAIR = ("a", "b")

    def test_one_to_three_pairs(self):
        for many in range(6):
            question = ("join", T, T, (self.PAIR,) * many)
            self.accept(question) if 1 <= many <= 3 else self.refuse(question)

    def test_wrong_parts(self):
        self.refuse_other_lengths(("join", T, T, (self.PAIR,)))
        self.refuse_inner(lambda thing: ("join", thing, T, (self.PAIR,)))
        self.refuse_inner(lambda thing: ("join", T, thing, (self.PAIR,)))
        self.refuse_each(lambda pairs: ("join", T, T, pairs), STRANGE + [self.PAIR, [self.PAIR], "ab", 1])
        pairs = STRANGE + STRANGE_TUPLES + [["a", "b"], ("a",), ("a", "b", "c"), "ab"]
        self.refuse_each(lambda pair: ("join", T, T, (pair,)), pairs)
        self.refuse_each(lambda pair: ("join", T, T, (self.PAIR, pair)), pairs)
        self.refuse_each(lambda name: ("join", T, T, ((name, "b"),)), NO_NAMES)
        self.refuse_each(lambda name: ("join", T, T, (("a", name),)), NO_NAMES)


class GroupTest(CheckedCase):
    SUMS = (("count", None, "n"), ("sum", "a", "s"), ("least", "a", "l"), ("most", "a", "m"))

    def with_sum(self, part):
        return ("group", T, ("a",), (part,))

    def test_none_to_eight_names(self):
        for many in range(9):
            self.accept(("group", T, EIGHT[:many], self.SUMS[:1]))
        self.refuse(("group", T, EIGHT + ("i",), ()))

    def test_none_to_four_sums(self):
        for many in range(5):
            self.accept(("group", T, ("a",), self.SUMS[:many]))
        self.refuse(("group", T, ("a",), self.SUMS + self.SUMS[:1]))
        self.accept(("group", T, (), ()))

    def test_none_for_count_alone(self):
        self.accept(self.with_sum(("count", None, "n")))
        self.refuse(self.with_sum(("count", "a", "n")), self.with_sum(("count", "", "n")))
        for word in ("sum", "least", "most"):
            self.accept(self.with_sum((word, "a", "n")))
            self.refuse(self.with_sum((word, None, "n")))

    def test_wrong_parts(self):
        self.refuse_other_lengths(("group", T, ("a",), self.SUMS))
        self.refuse_inner(lambda thing: ("group", thing, ("a",), self.SUMS))
        self.refuse_each(lambda names: ("group", T, names, self.SUMS), STRANGE + [["a"], "a", 1])
        self.refuse_each(lambda name: ("group", T, (name,), self.SUMS), NO_NAMES)
        self.refuse_each(lambda sums: ("group", T, ("a",), sums), STRANGE + [self.SUMS[0], list(self.SUMS), "abc", 1])

    def test_wrong_sums(self):
        parts = STRANGE + STRANGE_TUPLES + [["count", None, "n"], ("count", "n"), ("sum", "a"), ("sum", "a", "b", "c")]
        self.refuse_each(self.with_sum, parts)
        self.refuse_each(lambda part: ("group", T, (), self.SUMS[:3] + (part,)), parts)
        words = ["", "Count", "max", "min", "mean", None, 0, ("count",), ["sum"], Sulky()]
        self.refuse_each(lambda word: self.with_sum((word, "a", "n")), words)
        self.refuse_each(lambda word: self.with_sum((word, None, "n")), words)
        for word in ("sum", "least", "most"):
            self.refuse_each(lambda name: self.with_sum((word, name, "n")), NO_NAMES)
        for word, column in (("count", None), ("sum", "a"), ("least", "a"), ("most", "a")):
            self.refuse_each(lambda name: self.with_sum((word, column, name)), NO_NAMES)
        self.refuse_each(lambda name: self.with_sum(("count", name, "n")), [False, 0, (), Sulky()])


class FirstTest(CheckedCase):
    KEY = ("a", "up")

    def test_none_to_three_keys(self):
        for many in range(6):
            question = ("first", T, (self.KEY,) * many, 5)
            self.accept(question) if many <= 3 else self.refuse(question)
        self.accept(("first", T, (("a", "up"), ("b", "down")), 5))

    def test_many_from_0_to_60(self):
        for many in (0, 1, 2, 59, 60):
            self.accept(("first", T, (), many))
        for many in STRANGE + [-1, 61, 62, BIG, -BIG, "1", "", (1,)]:
            self.refuse(("first", T, (), many))

    def test_wrong_parts(self):
        self.refuse_other_lengths(("first", T, (self.KEY,), 5))
        self.refuse_inner(lambda thing: ("first", thing, (self.KEY,), 5))
        self.refuse_each(lambda keys: ("first", T, keys, 5), STRANGE + [self.KEY, [self.KEY], "au", 1])
        keys = STRANGE + STRANGE_TUPLES + [["a", "up"], ("a",), ("a", "up", "up"), "a"]
        self.refuse_each(lambda key: ("first", T, (key,), 5), keys)
        self.refuse_each(lambda key: ("first", T, (self.KEY, key), 5), keys)
        self.refuse_each(lambda name: ("first", T, ((name, "up"),), 5), NO_NAMES)
        ways = ["", "Up", "asc", "a", None, True, 1, ("up",), ["up"], Sulky()]
        self.refuse_each(lambda way: ("first", T, (("a", way),), 5), ways)


def wrapped(question, times):
    for _ in range(times):
        question = ("keep", question, ("a",))
    return question


class SizeTest(CheckedCase):
    def grown(self, grow, most):
        """The question grown that many times is accepted, and once more refused."""
        question = T
        for _ in range(most):
            question = grow(question)
        self.accept(question)
        self.refuse(grow(question), grow(grow(question)))

    def test_one_for_each(self):
        self.grown(lambda inner: ("keep", inner, EIGHT), 19)
        self.grown(lambda inner: ("named", inner, EIGHT), 19)
        self.grown(lambda inner: ("group", inner, EIGHT, GroupTest.SUMS), 19)
        self.grown(lambda inner: ("first", inner, (("a", "up"),) * 3, 60), 19)

    def test_where_counts_its_tests_and_not_itself(self):
        self.grown(lambda inner: ("where", inner, (TEST,)), 19)
        self.grown(lambda inner: ("where", inner, (TEST,) * 2), 9)
        self.grown(lambda inner: ("where", inner, (TEST,) * 3), 6)
        self.accept(("where", wrapped(T, 16), (TEST,) * 3))
        self.refuse(("where", wrapped(T, 17), (TEST,) * 3))

    def test_join_counts_both_sides(self):
        pairs = (("a", "b"),) * 3
        self.grown(lambda inner: ("join", inner, T, pairs), 9)
        self.grown(lambda inner: ("join", T, inner, pairs), 9)
        self.accept(("join", wrapped(T, 8), wrapped(T, 9), pairs))
        self.refuse(("join", wrapped(T, 9), wrapped(T, 9), pairs), ("join", wrapped(T, 8), wrapped(T, 10), pairs))

    def test_very_deep_ones(self):
        deep = wrapped(T, 200000)
        both = T
        for _ in range(2000):
            both = ("join", both, both, (("a", "b"),))
        wide = ("where", deep, (TEST,))
        for thing in (deep, both, wide, ("join", T, deep, (("a", "b"),)), ("keep", both, deep)):
            start = time.perf_counter()
            self.refuse(thing)
            self.assertLess(time.perf_counter() - start, 5)

    def test_deep_with_no_question_at_the_bottom(self):
        self.refuse(wrapped(None, 5), wrapped(("table", ""), 19), wrapped((), 200000))


class OfAnythingTest(CheckedCase):
    def test_checked(self):
        self.refuse(*STRANGE, *STRANGE_TUPLES, "table", "t", 1, "", ("t",), (("table", "t"),))

    def test_all_that_are_handed_a_question(self):
        # No heads and no tables: NoQuestion is told ahead of NoTable.
        for thing in STRANGE + STRANGE_TUPLES + ["t", 1, wrapped(T, 20), wrapped(T, 5000), ("first", T, (), 61)]:
            for call in (lambda: head_of({}, thing), lambda: rows_of({}, {}, thing), lambda: whole({}, {}, thing)):
                with self.assertRaises(NoQuestion) as taken:
                    call()
                self.assertIsNone(taken.exception.act)


if __name__ == "__main__":
    unittest.main()
