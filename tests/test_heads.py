import unittest

from shardask.errors import NoColumn, NoKind, NoTable, ShardError, TooWide, Twice
from shardask.questions import head_of
from shardask.values import is_head
from shardask.wholes import rows_of, whole
from tests.things import UnchangedCase

HEADS = {
    "sale": (("n", "number"), ("who", "word"), ("shop", "number")),
    "shop": (("id", "number"), ("town", "word")),
    "one": (("a", "number"),),
    "wide": tuple((name, "number") for name in "abcdefgh"),
    "words": tuple((name, "word") for name in "stuvwxyz"),
}
SALE = ("table", "sale")
SHOP = ("table", "shop")
ONE = ("table", "one")
WIDE = ("table", "wide")
WORDS = ("table", "words")


def where(inner, *tests):
    return ("where", inner, tests)


def on_value(name, value, sign="="):
    return (name, sign, ("value", value))


def on_column(name, other, sign="="):
    return (name, sign, ("column", other))


# One question for each refusal, refused by nothing else.
NO_TABLE = ("table", "none")
NO_COLUMN = ("keep", SALE, ("zz",))
NO_KIND = where(SALE, on_value("n", "a"))
TWICE = ("keep", SALE, ("n", "n"))
TOO_WIDE = ("group", SALE, (), ())
REFUSED = ((NO_TABLE, NoTable), (NO_COLUMN, NoColumn), (NO_KIND, NoKind), (TWICE, Twice), (TOO_WIDE, TooWide))


class HeadsCase(UnchangedCase):
    def tells(self, question, head):
        told = self.unchanged(head_of, HEADS, question)
        self.assertEqual(told, head)
        self.assertIs(is_head(told), True)

    def refuses(self, error, *questions):
        tables = {name: [] for name in HEADS}
        calls = (head_of, lambda heads, asked: rows_of(heads, tables, asked),
                 lambda heads, asked: whole(heads, tables, asked))
        for question in questions:
            for call in calls:
                with self.subTest(question), self.assertRaises(ShardError) as taken:
                    self.unchanged(call, HEADS, question)
                self.assertIs(taken.exception.__class__, error, question)
                self.assertIsInstance(taken.exception, ValueError)
                self.assertIsNone(taken.exception.act)


class TableHeadTest(HeadsCase):
    def test_head(self):
        for name, head in HEADS.items():
            self.tells(("table", name), head)

    def test_no_table(self):
        self.refuses(NoTable, NO_TABLE)
        with self.assertRaises(NoTable):
            head_of({}, SALE)

    def test_each_head_keeps_to_its_bounds(self):
        # "At each question": a table's own head is held to it too.
        with self.assertRaises(TooWide):
            head_of({"t": HEADS["wide"] + (("i", "number"),)}, ("table", "t"))
        with self.assertRaises(Twice):
            head_of({"t": (("a", "number"), ("a", "number"))}, ("table", "t"))


class WhereHeadTest(HeadsCase):
    def test_head(self):
        self.tells(where(SALE, on_value("n", 3)), HEADS["sale"])
        self.tells(where(SALE, on_value("who", ""), on_column("n", "shop", "<"), on_column("n", "n")), HEADS["sale"])

    def test_no_column(self):
        self.refuses(
            NoColumn, where(SALE, on_value("zz", 3)), where(SALE, on_column("zz", "n")),
            where(SALE, on_column("n", "zz")),
            where(SALE, on_value("n", 3), on_value("zz", 3)), where(SALE, on_value("id", 3)))

    def test_no_kind(self):
        for sign in "=<>!":
            self.refuses(
                NoKind, where(SALE, on_value("n", "a", sign)), where(SALE, on_value("n", "", sign)),
                where(SALE, on_value("who", 0, sign)), where(SALE, on_column("n", "who", sign)),
                where(SALE, on_column("who", "n", sign)), where(SALE, on_value("n", 1), on_value("who", 1, sign)))

    def test_column_ahead_of_kind(self):
        self.refuses(
            NoColumn, where(SALE, on_value("n", "a"), on_value("zz", 1)),
            where(SALE, on_value("zz", 1), on_value("n", "a")),
            where(SALE, on_value("n", "a"), on_value("who", 1), on_column("n", "zz")))


class KeepHeadTest(HeadsCase):
    def test_head(self):
        self.tells(("keep", SALE, ("n",)), (("n", "number"),))
        self.tells(("keep", SALE, ("shop", "who")), (("shop", "number"), ("who", "word")))
        self.tells(("keep", WIDE, tuple("hgfedcba")), tuple((name, "number") for name in "hgfedcba"))

    def test_no_column(self):
        self.refuses(NoColumn, ("keep", SALE, ("zz",)), ("keep", SALE, ("n", "id")), ("keep", ONE, tuple("abcdefgh")))

    def test_twice(self):
        self.refuses(Twice, ("keep", SALE, ("n", "n")), ("keep", SALE, ("n", "who", "n")))

    def test_column_ahead_of_twice(self):
        self.refuses(NoColumn, ("keep", SALE, ("n", "n", "zz")), ("keep", SALE, ("zz", "zz")))


class NamedHeadTest(HeadsCase):
    def test_head(self):
        self.tells(("named", SALE, ("a", "b", "c")), (("a", "number"), ("b", "word"), ("c", "number")))
        self.tells(("named", SALE, ("who", "n", "shop")), (("who", "number"), ("n", "word"), ("shop", "number")))
        self.tells(("named", WORDS, tuple("abcdefgh")), tuple((name, "word") for name in "abcdefgh"))

    def test_not_as_many_names(self):
        self.refuses(NoColumn, ("named", SALE, ("a", "b")), ("named", SALE, ("a", "b", "c", "d")),
            ("named", ONE, ("a", "b")))

    def test_twice(self):
        self.refuses(Twice, ("named", SALE, ("a", "b", "a")), ("named", SALE, ("n", "n", "n")))

    def test_as_many_ahead_of_twice(self):
        self.refuses(NoColumn, ("named", SALE, ("a", "a")), ("named", SALE, ("a", "a", "a", "a")))


class JoinHeadTest(HeadsCase):
    def test_head(self):
        self.tells(("join", SALE, SHOP, (("shop", "id"),)), HEADS["sale"] + (("town", "word"),))
        self.tells(("join", SALE, SHOP, (("who", "town"),)), HEADS["sale"] + (("id", "number"),))
        self.tells(("join", SALE, SHOP, (("n", "id"), ("who", "town"))), HEADS["sale"])
        self.tells(("join", SHOP, SALE, (("id", "shop"),)), HEADS["shop"] + HEADS["sale"][:2])
        self.tells(("join", SALE, SALE, (("n", "n"), ("who", "who"), ("shop", "shop"))), HEADS["sale"])
        self.tells(("join", SALE, SALE, (("shop", "n"), ("who", "who"), ("n", "shop"))), HEADS["sale"])

    def test_eight_columns(self):
        other = ("named", ("keep", WIDE, tuple("abcdef")), tuple("klmopq"))
        self.assertEqual(len(head_of(HEADS, ("join", SALE, other, (("n", "k"),)))), 8)

    def test_no_column(self):
        self.refuses(
            NoColumn, ("join", SALE, SHOP, (("id", "id"),)), ("join", SALE, SHOP, (("shop", "shop"),)),
            ("join", SALE, SHOP, (("shop", "id"), ("zz", "town"))),
            ("join", SALE, SHOP, (("shop", "id"), ("who", "zz"))))

    def test_no_kind(self):
        self.refuses(
            NoKind, ("join", SALE, SHOP, (("who", "id"),)), ("join", SALE, SHOP, (("n", "town"),)),
            ("join", SALE, SHOP, (("shop", "id"), ("n", "town"))))

    def test_twice(self):
        self.refuses(
            Twice, ("join", SALE, SALE, (("n", "shop"),)), ("join", SALE, SALE, (("n", "n"),)),
            ("join", SALE, SHOP, (("shop", "id"), ("shop", "id"))),
            # One d in two pairs, and one c in two, where the head would have no name twice.
            ("join", SALE, SHOP, (("shop", "id"), ("n", "id"))),
            ("join", ONE, ("named", SALE, ("d", "e", "f")), (("a", "d"), ("a", "f"))))

    def test_too_wide(self):
        self.refuses(
            TooWide, ("join", SALE, WIDE, (("n", "a"),)), ("join", WIDE, SHOP, (("a", "id"),)),
            ("join", SALE, ("named", ("keep", WIDE, tuple("abcdefg")), tuple("klmopqr")), (("n", "k"),)))

    def test_the_order(self):
        self.refuses(
            NoColumn, ("join", SALE, SHOP, (("n", "town"), ("zz", "id"))),
            ("join", SALE, SHOP, (("n", "zz"), ("who", "id"))),
            ("join", SALE, SALE, (("n", "n"), ("n", "zz"))), ("join", SALE, WIDE, (("zz", "a"),)))
        self.refuses(
            NoKind, ("join", SALE, SALE, (("n", "who"),)), ("join", SALE, SHOP, (("n", "id"), ("n", "town"))),
            ("join", SALE, WIDE, (("who", "a"),)))
        self.refuses(
            Twice, ("join", WIDE, WIDE, (("a", "a"),)), ("join", SALE, WIDE, (("n", "a"), ("n", "b"))),
            ("join", SALE, WIDE, (("n", "a"), ("shop", "a"))))


class GroupHeadTest(HeadsCase):
    def test_head(self):
        self.tells(("group", SALE, ("who",), ()), (("who", "word"),))
        self.tells(("group", SALE, ("shop", "n"), ()), (("shop", "number"), ("n", "number")))
        self.tells(("group", SALE, (), (("count", None, "n"),)), (("n", "number"),))
        sums = (("count", None, "c"), ("sum", "n", "s"), ("least", "who", "l"), ("most", "shop", "m"))
        made = (("c", "number"), ("s", "number"), ("l", "word"), ("m", "number"))
        self.tells(("group", SALE, ("who",), sums), (("who", "word"),) + made)
        self.tells(("group", SALE, (), sums), made)
        self.tells(("group", SALE, (), (("most", "who", "who"), ("least", "n", "n"))),
            (("who", "word"), ("n", "number")))
        self.tells(("group", WIDE, tuple("abcd"), tuple(("sum", "e", new) for new in "efgh")), HEADS["wide"])

    def test_no_column(self):
        self.refuses(NoColumn, ("group", SALE, ("zz",), ()), ("group", SALE, ("n", "zz"), (("count", None, "c"),)))
        for word in ("sum", "least", "most"):
            self.refuses(NoColumn, ("group", SALE, ("n",), ((word, "zz", "c"),)))

    def test_no_kind(self):
        self.refuses(
            NoKind, ("group", SALE, (), (("sum", "who", "s"),)),
            ("group", SALE, ("n",), (("count", None, "c"), ("least", "who", "l"), ("sum", "who", "s"))))

    def test_twice(self):
        count = ("count", None, "n")
        self.refuses(
            Twice, ("group", SALE, ("n", "n"), ()), ("group", SALE, ("n",), (count,)),
            ("group", SALE, (), (count, count)),
            ("group", SALE, ("who",), (("sum", "n", "x"), ("most", "shop", "x"))))

    def test_too_wide(self):
        self.refuses(
            TooWide, ("group", SALE, (), ()), ("group", WIDE, tuple("abcdefgh"), (("count", None, "i"),)),
            ("group", WIDE, tuple("abcde"), tuple(("least", "a", new) for new in "klmo")))

    def test_the_order(self):
        on_words = ("sum", "who", "s")
        self.refuses(
            NoColumn, ("group", SALE, ("zz",), (on_words,)), ("group", SALE, (), (on_words, ("most", "zz", "m"))),
            ("group", SALE, ("n", "n"), (("sum", "zz", "s"),)),
            ("group", WIDE, tuple("abcdefgz"), (("count", None, "i"),)))
        self.refuses(
            NoKind, ("group", SALE, ("n", "n"), (on_words,)), ("group", SALE, ("who",), (("sum", "who", "who"),)),
            ("group", WORDS, tuple("stuvwxyz"), (("sum", "s", "a"),)))
        self.refuses(
            Twice, ("group", WIDE, tuple("abcdefgh"), (("count", None, "a"),)),
            ("group", WIDE, tuple("aabcdefg"), (("count", None, "i"), ("count", None, "k"))))


class FirstHeadTest(HeadsCase):
    def test_head(self):
        self.tells(("first", SALE, (), 0), HEADS["sale"])
        self.tells(("first", SALE, (("who", "up"), ("n", "down"), ("shop", "up")), 60), HEADS["sale"])

    def test_no_column(self):
        self.refuses(NoColumn, ("first", SALE, (("zz", "up"),), 1), ("first", SALE, (("n", "up"), ("id", "down")), 1))

    def test_twice(self):
        self.refuses(
            Twice, ("first", SALE, (("n", "up"), ("n", "up")), 1),
            ("first", SALE, (("n", "up"), ("who", "up"), ("n", "down")), 1))

    def test_column_ahead_of_twice(self):
        self.refuses(NoColumn, ("first", SALE, (("n", "up"), ("n", "up"), ("zz", "up")), 1),
                     ("first", SALE, (("zz", "up"), ("zz", "up")), 1))


def around(inner):
    """Questions of each sort over the inner one, each refused by itself too if the inner one were sale."""
    return (
        where(inner, on_value("zz", 1)), where(inner, on_value("n", "a")), ("keep", inner, ("zz",)),
        ("keep", inner, ("n", "n")), ("named", inner, ("a",)), ("named", inner, ("a", "a", "a")),
        ("join", inner, SHOP, (("zz", "id"),)), ("join", inner, NO_TABLE, (("n", "id"),)),
        ("join", inner, NO_KIND, (("n", "id"),)), ("join", SALE, inner, (("n", "n"),)),
        ("join", SALE, inner, (("zz", "zz"),)), ("group", inner, (), ()), ("group", inner, ("zz",), ()),
        ("first", inner, (("zz", "up"),), 1), ("first", inner, (("n", "up"), ("n", "up")), 1),
    )


class OrderTest(HeadsCase):
    def test_each_by_itself(self):
        for question, error in REFUSED:
            self.refuses(error, question)

    def test_the_innermost_first(self):
        for question, error in REFUSED:
            self.refuses(error, *around(question))
            for outer in around(question):
                self.refuses(error, ("keep", outer, ("zz",)), ("join", outer, NO_TABLE, (("zz", "zz"),)))

    def test_a_join_s_first_side_ahead_of_the_other(self):
        for question, error in REFUSED:
            for other, other_error in REFUSED:
                self.refuses(error, ("join", question, other, (("zz", "zz"),)))
                deep = ("first", ("where", other, (on_value("zz", 1),)), (("zz", "up"),), 1)
                self.refuses(error, ("join", question, deep, (("zz", "zz"),)))
                self.refuses(error, ("join", ("keep", question, ("zz",)), other, (("zz", "zz"),)))
                self.refuses(other_error, ("join", SALE, other, (("zz", "zz"),)))

    def test_by_the_inner_head(self):
        renamed = ("named", SALE, ("a", "b", "c"))
        self.refuses(NoColumn, where(renamed, on_value("n", 1)), ("keep", ("keep", SALE, ("n",)), ("who",)))
        self.refuses(NoKind, where(("named", SALE, ("who", "n", "shop")), on_value("n", 1)))
        self.tells(where(renamed, on_value("b", "x")), (("a", "number"), ("b", "word"), ("c", "number")))
        self.tells(
            ("first", ("group", ("join", where(SALE, on_value("n", 3, ">")), ("keep", SHOP, ("id", "town")),
                                 (("shop", "id"),)), ("town",), (("count", None, "many"),)), (("many", "down"),), 5),
            (("town", "word"), ("many", "number")))


if __name__ == "__main__":
    unittest.main()
