import random
import unittest

from shardask.early import early
from shardask.errors import NoColumn, NoKind, NoQuestion, NoTable, ShardError, TooWide, Twice
from shardask.questions import checked, head_of
from shardask.wholes import rows_of, whole
from tests.test_made_questions import HEADS as MADE_HEADS
from tests.test_made_questions import Refused, go, made, made_tables, made_tests, size
from tests.things import STRANGE, STRANGE_TUPLES, UnchangedCase

HEADS = {
    "sale": (("n", "number"), ("who", "word"), ("shop", "number")),
    "shop": (("id", "number"), ("town", "word"), ("rent", "number")),
    # Its column n bears the name of one of sale's.
    "pay": (("n", "number"), ("m", "number"), ("o", "number")),
}
SALE, SHOP, PAY = ("table", "sale"), ("table", "shop"), ("table", "pay")
MANY = 3000


def where(inner, *tests):
    return ("where", inner, tests)


def value(name, other, sign="="):
    return (name, sign, ("value", other))


def column(name, other, sign="<"):
    return (name, sign, ("column", other))


N = value("n", 1, ">")
WHO = value("who", "al")
NSHOP = column("n", "shop")


class EarlyCase(UnchangedCase):
    def tells(self, question, told):
        self.assertEqual(self.unchanged(early, HEADS, question), told)
        self.assertEqual(checked(told), told)
        self.assertEqual(head_of(HEADS, told), head_of(HEADS, question))
        self.assertEqual(size(told), size(question))

    def stays(self, *questions):
        for question in questions:
            with self.subTest(question):
                self.tells(question, question)


class NoWhereTest(EarlyCase):
    def test_questions_without_a_where_stay(self):
        self.stays(
            SALE, ("keep", SALE, ("n",)), ("named", SALE, ("a", "b", "c")), ("join", SALE, SHOP, (("shop", "id"),)),
            ("group", SALE, ("n",), (("count", None, "c"),)), ("first", SALE, (("n", "down"),), 3),
            ("first", ("group", ("join", SALE, SHOP, (("shop", "id"),)), ("town",), ()), (), 0))


class SinksTest(EarlyCase):
    """One test over each of the seven sorts of question."""

    def test_table(self):
        for test in (N, WHO, NSHOP, column("n", "n"), value("n", 5, "!")):
            self.stays(where(SALE, test))

    def test_first(self):
        latest = ("first", SALE, (("n", "down"),), 3)
        for test in (N, WHO, NSHOP):
            self.stays(where(latest, test))

    def test_where(self):
        for test in (N, NSHOP):
            self.tells(where(where(SALE, WHO), test), where(where(SALE, test), WHO))

    def test_where_that_stays_above(self):
        latest = ("first", SALE, (), 3)
        self.tells(where(where(latest, WHO), N), where(where(latest, N), WHO))

    def test_keep(self):
        for test in (N, NSHOP, column("shop", "n")):
            self.tells(where(("keep", SALE, ("shop", "n")), test), ("keep", where(SALE, test), ("shop", "n")))

    def test_named(self):
        names = ("a", "b", "c")
        self.tells(where(("named", SALE, names), value("b", "x", "!")),
                   ("named", where(SALE, value("who", "x", "!")), names))
        self.tells(where(("named", SALE, names), column("c", "a", ">")),
                   ("named", where(SALE, column("shop", "n", ">")), names))

    def test_named_by_names_that_change_places(self):
        names = ("shop", "who", "n")
        self.tells(where(("named", SALE, names), N), ("named", where(SALE, value("shop", 1, ">")), names))
        self.tells(where(("named", SALE, names), NSHOP), ("named", where(SALE, column("shop", "n")), names))
        self.tells(where(("named", SALE, names), column("n", "n")),
                   ("named", where(SALE, column("shop", "shop")), names))

    def test_named_of_named_and_keep(self):
        kept = ("named", ("keep", ("named", SALE, ("a", "b", "c")), ("c", "a")), ("a", "x"))
        sunk = ("named", where(SALE, column("shop", "n")), ("a", "b", "c"))
        self.tells(where(kept, column("a", "x")), ("named", ("keep", sunk, ("c", "a")), ("a", "x")))

    def test_group(self):
        sums = (("count", None, "c"), ("sum", "n", "s"))
        grouped = ("group", SALE, ("who", "shop"), sums)
        for test in (WHO, value("shop", 3, "<"), column("shop", "shop")):
            self.tells(where(grouped, test), ("group", where(SALE, test), ("who", "shop"), sums))
        self.stays(where(grouped, value("c", 1)), where(grouped, value("s", 1, ">")), where(grouped, column("c", "s")))
        # Partly among the names.
        self.stays(where(grouped, column("shop", "c")), where(grouped, column("c", "shop")))

    def test_group_with_a_sum_called_like_a_column(self):
        grouped = ("group", SALE, ("who",), (("most", "n", "n"),))
        self.stays(where(grouped, N))
        self.tells(where(grouped, WHO), ("group", where(SALE, WHO), ("who",), (("most", "n", "n"),)))

    def test_group_without_names(self):
        self.stays(where(("group", SALE, (), (("sum", "n", "n"),)), N))


class JoinTest(EarlyCase):
    PAIRS = (("shop", "id"),)
    JOIN = ("join", SALE, SHOP, PAIRS)

    def test_all_of_the_first_side(self):
        for test in (N, WHO, NSHOP, value("shop", 2)):
            self.tells(where(self.JOIN, test), ("join", where(SALE, test), SHOP, self.PAIRS))

    def test_all_of_the_other_and_none_of_a_pair(self):
        for test in (value("town", "ulm"), value("rent", 7, "<"), column("rent", "rent")):
            self.tells(where(self.JOIN, test), ("join", SALE, where(SHOP, test), self.PAIRS))
        other = ("join", SALE, PAY, (("n", "n"),))
        self.tells(where(other, column("m", "o")), ("join", SALE, where(PAY, column("m", "o")), (("n", "n"),)))

    def test_some_of_each(self):
        for test in (column("rent", "n"), column("n", "rent"), column("town", "who"), column("shop", "rent")):
            self.stays(where(self.JOIN, test))

    def test_a_name_that_both_sides_have(self):
        # The n of the join is sale's, though pay has one too: it is the d of the pair.
        for pairs in ((("n", "n"),), (("shop", "n"),)):
            joined = ("join", SALE, PAY, pairs)
            for test in (N, NSHOP, column("n", "n")):
                self.tells(where(joined, test), ("join", where(SALE, test), PAY, pairs))

    def test_one_of_them_a_d_of_a_pair(self):
        # n and m are both pay's by name, but the n that is seen is sale's.
        for pairs in ((("n", "n"),), (("shop", "n"),)):
            joined = ("join", SALE, PAY, pairs)
            self.stays(where(joined, column("n", "m")), where(joined, column("m", "n")))

    def test_several_pairs(self):
        pairs = (("n", "n"), ("shop", "m"))
        joined = ("join", SALE, PAY, pairs)
        self.tells(where(joined, value("o", 1)), ("join", SALE, where(PAY, value("o", 1)), pairs))
        self.stays(where(joined, column("o", "n")))

    def test_into_deep_sides(self):
        left = ("keep", ("named", SALE, ("a", "b", "c")), ("b", "c"))
        right = ("group", SHOP, ("town", "id"), (("sum", "rent", "all"),))
        pairs = (("c", "id"),)
        joined = ("join", left, right, pairs)
        deep = ("keep", ("named", where(SALE, value("shop", 4)), ("a", "b", "c")), ("b", "c"))
        self.tells(where(joined, value("c", 4)), ("join", deep, right, pairs))
        self.tells(where(joined, value("town", "ulm")), (
            "join", left, ("group", where(SHOP, value("town", "ulm")), ("town", "id"), right[3]), pairs))
        self.tells(where(joined, value("all", 9, ">")), ("join", left, where(right, value("all", 9, ">")), pairs))


class OrderTest(EarlyCase):
    def test_the_last_of_several_comes_lowest(self):
        self.tells(where(SALE, N, WHO), where(where(SALE, WHO), N))
        self.tells(where(SALE, N, WHO, NSHOP), where(where(where(SALE, NSHOP), WHO), N))
        self.tells(where(SALE, N, N), where(where(SALE, N), N))

    def test_a_where_of_a_where(self):
        # The lower where is moved first, so the upper one's tests come to lie below it.
        self.tells(where(where(SALE, N, WHO), NSHOP), where(where(where(SALE, NSHOP), WHO), N))
        self.tells(where(where(SALE, N), WHO, NSHOP), where(where(where(SALE, NSHOP), WHO), N))
        self.tells(where(where(where(SALE, N), WHO), NSHOP), where(where(where(SALE, NSHOP), WHO), N))

    def test_tests_part_their_ways(self):
        pairs = (("shop", "id"),)
        town, mixed = value("town", "ulm"), column("rent", "n")
        joined = ("join", SALE, SHOP, pairs)
        self.tells(where(joined, mixed, town, N), where(("join", where(SALE, N), where(SHOP, town), pairs), mixed))
        self.tells(where(joined, N, mixed, town), where(("join", where(SALE, N), where(SHOP, town), pairs), mixed))
        # One that stays above is no hindrance for the next, which lies below it.
        other = column("town", "who")
        self.tells(where(joined, mixed, other), where(where(joined, other), mixed))

    def test_deep_within_both_sides_of_a_join(self):
        left = ("named", where(("keep", where(SALE, WHO), ("shop", "n")), N), ("a", "b"))
        right = where(("first", where(("keep", SHOP, ("id", "rent")), value("rent", 0, ">")), (), 5), value("id", 1))
        pairs = (("a", "id"),)
        left_told = ("named", ("keep", where(where(SALE, N), WHO), ("shop", "n")), ("a", "b"))
        inner = ("first", ("keep", where(SHOP, value("rent", 0, ">")), ("id", "rent")), (), 5)
        self.tells(("join", left, right, pairs), ("join", left_told, where(inner, value("id", 1)), pairs))
        over = where(("join", left, right, pairs), value("b", 3), value("rent", 8))
        deep = ("named", ("keep", where(where(where(SALE, value("n", 3)), N), WHO), ("shop", "n")), ("a", "b"))
        low = where(where(inner, value("rent", 8)), value("id", 1))
        self.tells(over, ("join", deep, low, pairs))

    def test_beneath_each_sort(self):
        inner = where(("keep", SALE, ("n", "who")), N)
        told = ("keep", where(SALE, N), ("n", "who"))
        for build in (lambda q: ("keep", q, ("n",)), lambda q: ("named", q, ("a", "b")),
                      lambda q: ("group", q, ("n",), ()), lambda q: ("first", q, (), 3),
                      lambda q: ("join", q, SHOP, (("n", "id"),)), lambda q: ("join", SHOP, q, (("id", "n"),))):
            self.tells(build(inner), build(told))

    def test_of_size_twenty(self):
        question, told = SALE, SALE
        for _ in range(6):
            question = where(question, N, WHO, NSHOP)
        for test in (NSHOP, WHO, N) * 6:
            told = where(told, test)
        self.tells(("keep", question, ("n",)), ("keep", told, ("n",)))


class RefusedTest(EarlyCase):
    def refuses(self, error, *questions):
        for question in questions:
            with self.assertRaises(ShardError) as taken:
                early(HEADS, question)
            self.assertIs(taken.exception.__class__, error, question)
            self.assertIsNone(taken.exception.act)

    def test_no_question(self):
        self.refuses(NoQuestion, *STRANGE, *STRANGE_TUPLES, where(SALE), where(SALE, N, N, N, N), ("where", SALE, [N]))
        question = SALE
        for _ in range(20):
            question = where(question, N)
        self.refuses(NoQuestion, question)

    def test_as_head_of(self):
        self.refuses(NoTable, ("table", "none"), where(("table", "none"), value("zz", 1)))
        self.refuses(NoColumn, where(SALE, value("zz", 1)), where(SALE, column("n", "zz")),
                     where(("keep", SALE, ("n",)), WHO), where(("named", SALE, ("a", "b", "c")), N))
        # A test that would hold beneath is refused where its column is not seen.
        self.refuses(NoColumn, where(("join", SALE, SHOP, (("shop", "id"),)), value("id", 1)))
        self.refuses(NoKind, where(SALE, value("n", "a")), where(SALE, column("n", "who")),
                     ("join", where(SALE, value("who", 1)), SHOP, (("shop", "id"),)))
        self.refuses(Twice, where(("keep", SALE, ("n", "n")), N), ("join", where(SALE, N), SALE, (("n", "n"),)))
        self.refuses(TooWide, ("group", where(SALE, N), (), ()))
        with self.assertRaises(NoTable):
            early({}, SALE)


def rest_of(question, test, around):
    """Goes down step by step with the way around kept, and tells the question with the test where it stops."""
    while True:
        wanted = {test[0]} | ({test[2][1]} if test[2][0] == "column" else set())
        sides = [{name for name, _ in go(part, NO_ROWS)[0]} for part in question[1:3] if is_question(part)]
        word = question[0]
        if word == "join" and not wanted <= sides[0]:
            if not wanted <= sides[1] - {d for _, d in question[3]}:
                break
            around = around + [(question[:2], question[3:])]
            question = question[2]
            continue
        if word in ("table", "first") or (word == "group" and not wanted <= set(question[2])):
            break
        if word == "named":
            old = [name for name, _ in go(question[1], NO_ROWS)[0]]
            test = in_old_names(test, old, list(question[2]))
        around = around + [(question[:1], question[2:])]
        question = question[1]
    question = ("where", question, (test,))
    for ahead, behind in reversed(around):
        question = ahead + (question,) + behind
    return question


def in_old_names(test, old, new):
    name, sign, (what, other) = test
    return (old[new.index(name)], sign, (what, old[new.index(other)] if what == "column" else other))


def is_question(part):
    return isinstance(part, tuple) and part[:1] and part[0] in (
        "table", "where", "keep", "named", "join", "group", "first")


def second_way(question):
    word = question[0]
    if word == "table":
        return question
    if word == "join":
        return (word, second_way(question[1]), second_way(question[2]), question[3])
    inner = second_way(question[1])
    if word != "where":
        return (word, inner) + question[2:]
    for test in question[2]:
        inner = rest_of(inner, test, [])
    return inner


NO_ROWS = {name: [] for name in MADE_HEADS}


def made_with_tests(chance):
    """A made question with a where around it more often than chance would have it."""
    question = made(chance, chance.randint(0, 4))
    try:
        columns = dict(go(question, NO_ROWS)[0])
    except Refused:
        return question
    if chance.random() < 0.7:
        question = ("where", question, made_tests(chance, list(columns), columns))
    return question


class MadeQuestionsTest(unittest.TestCase):
    def test_the_same_answer_head_and_size(self):
        chance = random.Random(10)
        seen = {"moved": 0, "stayed": 0, "refused": 0, "rows": 0}
        for _ in range(MANY):
            question, tables = made_with_tests(chance), made_tables(chance)
            if size(question) > 20:
                continue
            try:
                go(question, NO_ROWS)
            except Refused as refused:
                with self.assertRaises(ShardError) as taken:
                    early(MADE_HEADS, question)
                self.assertEqual(taken.exception.__class__.__name__, refused.args[0])
                seen["refused"] += 1
                continue
            told = early(MADE_HEADS, question)
            self.compare(question, told, tables)
            seen["stayed" if told == question else "moved"] += 1
            seen["rows"] += bool(whole(MADE_HEADS, tables, told))
        for many in seen.values():
            self.assertGreater(many, MANY // 20, seen)

    def compare(self, question, told, tables):
        self.assertEqual(told, second_way(question), question)
        self.assertEqual(checked(told), told)
        self.assertEqual(size(told), size(question))
        self.assertEqual(head_of(MADE_HEADS, told), head_of(MADE_HEADS, question))
        self.assertEqual(rows_of(MADE_HEADS, tables, told), rows_of(MADE_HEADS, tables, question), question)
        self.assertEqual(whole(MADE_HEADS, tables, told), whole(MADE_HEADS, tables, question), question)


if __name__ == "__main__":
    unittest.main()
