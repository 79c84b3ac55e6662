import itertools
import unittest

from shardask.errors import ShardError
from shardask.wholes import ordered, rows_of, whole
from tests.things import UnchangedCase

HEADS = {
    "sale": (("n", "number"), ("who", "word"), ("shop", "number")),
    "shop": (("id", "number"), ("town", "word")),
    "pay": (("lo", "number"), ("hi", "number"), ("from", "word"), ("to", "word")),
    "void": (("v", "number"), ("w", "word")),
}
TABLES = {
    "sale": [(5, "bo", 1), (3, "al", 2), (5, "bo", 1), (-4, "", 1), (10, "al", 9), (3, "al", 1)],
    "shop": [(2, "ulm"), (1, "bern"), (3, "bern"), (1, "rom")],
    "pay": [(1, 2, "a", "b"), (2, 1, "b", "a"), (2, 2, "b", "b"), (-10, 9, "z", "aa"), (10, 9, "", "")],
    "void": [],
}
SALE, SHOP, PAY, VOID = ("table", "sale"), ("table", "shop"), ("table", "pay"), ("table", "void")
BIG = 10 ** 60 - 1


class WholesCase(UnchangedCase):
    def rows(self, question, tables=TABLES, heads=HEADS):
        return self.unchanged(rows_of, heads, tables, question)

    def tells(self, question, rows, tables=TABLES):
        """Of all but first the rows and the answer are one."""
        self.assertEqual(self.rows(question, tables), rows)
        self.assertEqual(self.unchanged(whole, HEADS, tables, question), rows)

    def tells_first(self, question, rows, tables=TABLES):
        self.assertEqual(self.rows(question, tables), sorted(rows))
        self.assertEqual(self.unchanged(whole, HEADS, tables, question), rows)


class TableRowsTest(WholesCase):
    def test_rising_with_alike_ones(self):
        self.tells(SALE, [(-4, "", 1), (3, "al", 1), (3, "al", 2), (5, "bo", 1), (5, "bo", 1), (10, "al", 9)])
        self.tells(SHOP, [(1, "bern"), (1, "rom"), (2, "ulm"), (3, "bern")])

    def test_none_and_one(self):
        self.tells(VOID, [])
        self.tells(VOID, [(1, "a")], {"void": [(1, "a")]})

    def test_numbers_by_size_and_words_as_texts(self):
        rows = [(10, ""), (9, ""), (-2, ""), (-10, ""), (BIG, ""), (-BIG, "")]
        self.tells(VOID, [(-BIG, ""), (-10, ""), (-2, ""), (9, ""), (10, ""), (BIG, "")], {"void": rows})
        rows = [(0, "b"), (0, "ab"), (0, "z"), (0, "a"), (0, ""), (0, "aaaaaaaa")]
        self.tells(VOID, [(0, ""), (0, "a"), (0, "aaaaaaaa"), (0, "ab"), (0, "b"), (0, "z")], {"void": rows})


class WhereRowsTest(WholesCase):
    def chosen(self, name, sign, other):
        return self.rows(("where", PAY, ((name, sign, other),)))

    def test_numbers_with_a_value(self):
        places = {"=": [2], "!": [-10, 1, 10], "<": [-10, 1], ">": [10]}
        for sign, lows in places.items():
            with self.subTest(sign):
                told = self.chosen("lo", sign, ("value", 2))
                self.assertEqual(sorted({row[0] for row in told}), lows)
                self.assertEqual(len(told), 2 if sign == "=" else len(lows))

    def test_words_with_a_value(self):
        places = {"=": ["b", "b"], "!": ["", "a", "z"], "<": ["", "a"], ">": ["z"]}
        for sign, froms in places.items():
            with self.subTest(sign):
                self.assertEqual(sorted(row[2] for row in self.chosen("from", sign, ("value", "b"))), froms)

    def test_numbers_with_a_column(self):
        places = {"=": [(2, 2)], "!": [(-10, 9), (1, 2), (2, 1), (10, 9)], "<": [(-10, 9), (1, 2)],
            ">": [(2, 1), (10, 9)]}
        for sign, pairs in places.items():
            with self.subTest(sign):
                self.assertEqual([row[:2] for row in self.chosen("lo", sign, ("column", "hi"))], pairs)

    def test_words_with_a_column(self):
        places = {"=": [("", ""), ("b", "b")], "!": [("a", "b"), ("b", "a"), ("z", "aa")],
                  "<": [("a", "b")], ">": [("b", "a"), ("z", "aa")]}
        for sign, pairs in places.items():
            with self.subTest(sign):
                self.assertEqual(sorted(row[2:] for row in self.chosen("from", sign, ("column", "to"))), pairs)

    def test_a_column_with_itself(self):
        for sign, many in (("=", 5), ("!", 0), ("<", 0), (">", 0)):
            self.assertEqual(len(self.chosen("lo", sign, ("column", "lo"))), many)

    def test_each_test_must_hold(self):
        tests = (("n", ">", ("value", 0)), ("who", "=", ("value", "al")), ("shop", "<", ("value", 9)))
        self.tells(("where", SALE, tests), [(3, "al", 1), (3, "al", 2)])
        self.tells(("where", SALE, tests[:1]), [(3, "al", 1), (3, "al", 2), (5, "bo", 1), (5, "bo", 1), (10, "al", 9)])
        self.tells(("where", SALE, (("n", "<", ("value", 0)), ("n", ">", ("value", 0)))), [])

    def test_alike_none_and_sixty_figures(self):
        self.tells(("where", SALE, (("n", "=", ("value", 5)),)), [(5, "bo", 1), (5, "bo", 1)])
        self.tells(("where", VOID, (("v", "!", ("value", 5)),)), [])
        tables = {"void": [(BIG, ""), (BIG - 1, "")]}
        self.tells(("where", VOID, (("v", ">", ("value", BIG - 1)),)), [(BIG, "")], tables)


class KeepAndNamedRowsTest(WholesCase):
    def test_keep(self):
        self.tells(("keep", SALE, ("who",)), [("",), ("al",), ("al",), ("al",), ("bo",), ("bo",)])
        self.tells(("keep", SHOP, ("town", "id")), [("bern", 1), ("bern", 3), ("rom", 1), ("ulm", 2)])
        self.tells(("keep", SHOP, ("id", "town")), [(1, "bern"), (1, "rom"), (2, "ulm"), (3, "bern")])
        self.tells(("keep", VOID, ("w",)), [])

    def test_named(self):
        self.tells(("named", SHOP, ("a", "b")), [(1, "bern"), (1, "rom"), (2, "ulm"), (3, "bern")])
        # The names are changed, not the places of the values.
        self.tells(("keep", ("named", SHOP, ("town", "id")), ("town",)), [(1,), (1,), (2,), (3,)])
        self.tells(("named", VOID, ("a", "b")), [])
        self.tells(("named", VOID, ("a", "b")), [(1, "x"), (1, "x")], {"void": [(1, "x"), (1, "x")]})


class JoinRowsTest(WholesCase):
    def test_one_pair(self):
        self.tells(("join", SALE, SHOP, (("shop", "id"),)), [
            (-4, "", 1, "bern"), (-4, "", 1, "rom"), (3, "al", 1, "bern"), (3, "al", 1, "rom"), (3, "al", 2, "ulm"),
            (5, "bo", 1, "bern"), (5, "bo", 1, "bern"), (5, "bo", 1, "rom"), (5, "bo", 1, "rom")])

    def test_by_words(self):
        heads = {"l": (("a", "word"), ("b", "number")), "r": (("c", "number"), ("d", "word"), ("e", "number"))}
        tables = {"l": [("x", 1), ("", 2), ("y", 3)], "r": [(7, "", 8), (9, "x", 6), (9, "x", 6), (1, "z", 1)]}
        question = ("join", ("table", "l"), ("table", "r"), (("a", "d"),))
        self.assertEqual(self.rows(question, tables, heads), [("", 2, 7, 8), ("x", 1, 9, 6), ("x", 1, 9, 6)])

    def test_two_and_three_pairs(self):
        heads = {"l": (("a", "number"), ("b", "word"), ("c", "number")),
                 "r": (("d", "number"), ("e", "word"), ("f", "number"), ("g", "word"))}
        tables = {"l": [(1, "x", 2), (1, "y", 2), (2, "x", 1)],
                  "r": [(1, "x", 2, "p"), (1, "x", 1, "q"), (1, "y", 2, "r"), (2, "x", 2, "s")]}
        sides = (("table", "l"), ("table", "r"))
        self.assertEqual(
            self.rows(("join",) + sides + ((("a", "d"), ("b", "e")),), tables, heads),
            [(1, "x", 2, 1, "q"), (1, "x", 2, 2, "p"), (1, "y", 2, 2, "r"), (2, "x", 1, 2, "s")])
        self.assertEqual(
            self.rows(("join",) + sides + ((("a", "d"), ("b", "e"), ("c", "f")),), tables, heads),
            [(1, "x", 2, "p"), (1, "y", 2, "r")])
        self.assertEqual(
            self.rows(("join",) + sides + ((("c", "d"), ("b", "e"), ("a", "f")),), tables, heads), [(2, "x", 1, "p")])

    def test_of_a_table_with_itself(self):
        self.tells(("join", SHOP, ("named", SHOP, ("other", "town")), (("town", "town"),)), [
            (1, "bern", 1), (1, "bern", 3), (1, "rom", 1), (2, "ulm", 2), (3, "bern", 1), (3, "bern", 3)])
        # All columns are paired: alike rows come as often as there are pairs of them.
        self.tells(("join", SALE, SALE, (("n", "n"), ("who", "who"), ("shop", "shop"))), [
            (-4, "", 1), (3, "al", 1), (3, "al", 2)] + [(5, "bo", 1)] * 4 + [(10, "al", 9)])

    def test_none_and_one(self):
        renamed = ("named", VOID, ("x", "y"))
        self.tells(("join", SALE, VOID, (("n", "v"),)), [])
        self.tells(("join", VOID, SALE, (("v", "n"),)), [])
        self.tells(("join", VOID, renamed, (("v", "x"),)), [])
        self.tells(("join", VOID, renamed, (("v", "x"),)), [(1, "a", "a")], {"void": [(1, "a")]})
        alike = {"void": [(1, "a"), (1, "a"), (1, "a")]}
        self.tells(("join", VOID, renamed, (("v", "x"),)), [(1, "a", "a")] * 9, alike)
        self.tells(("join", SHOP, VOID, (("id", "v"),)), [], dict(TABLES, void=[(77, "a")]))


class GroupRowsTest(WholesCase):
    FOUR = (("count", None, "c"), ("sum", "n", "s"), ("least", "n", "l"), ("most", "n", "m"))

    def test_by_names(self):
        self.tells(("group", SALE, ("who",), self.FOUR), [
            ("", 1, -4, -4, -4), ("al", 3, 16, 3, 10), ("bo", 2, 10, 5, 5)])
        self.tells(("group", SALE, ("shop", "who"), (("count", None, "c"),)), [
            (1, "", 1), (1, "al", 1), (1, "bo", 2), (2, "al", 1), (9, "al", 1)])

    def test_each_sum_by_itself(self):
        told = {"count": 6, "sum": 22, "least": -4, "most": 10}
        for part in self.FOUR:
            with self.subTest(part):
                self.tells(("group", SALE, (), (part,)), [(told[part[0]],)])

    def test_words(self):
        self.tells(("group", SALE, ("shop",), (("most", "who", "m"), ("least", "who", "l"))), [
            (1, "bo", ""), (2, "al", "al"), (9, "al", "al")])

    def test_without_sums(self):
        self.tells(("group", SALE, ("who",), ()), [("",), ("al",), ("bo",)])
        self.tells(("group", SALE, ("who", "n", "shop"), ()), [
            ("", -4, 1), ("al", 3, 1), ("al", 3, 2), ("al", 10, 9), ("bo", 5, 1)])

    def test_without_names(self):
        self.tells(("group", SALE, (), self.FOUR), [(6, 22, -4, 10)])

    def test_sums_of_one_column_and_of_a_name(self):
        self.tells(("group", SALE, ("n",), (("sum", "n", "s"), ("sum", "shop", "t"))), [
            (-4, -4, 1), (3, 6, 3), (5, 10, 2), (10, 10, 9)])

    def test_none(self):
        sums = (("count", None, "c"), ("sum", "v", "s"), ("least", "w", "l"), ("most", "v", "m"))
        self.tells(("group", VOID, ("w",), sums), [])
        self.tells(("group", VOID, (), sums), [])
        self.tells(("group", ("where", SALE, (("n", ">", ("value", 99)),)), (), self.FOUR), [])

    def test_one_and_alike(self):
        sums = (("count", None, "c"), ("sum", "v", "s"), ("least", "w", "l"), ("most", "v", "m"))
        self.tells(("group", VOID, (), sums), [(1, 7, "a", 7)], {"void": [(7, "a")]})
        self.tells(("group", VOID, ("v", "w"), sums), [(7, "a", 3, 21, "a", 7)], {"void": [(7, "a")] * 3})

    def test_sums_may_be_longer_than_sixty_figures(self):
        rows = [(BIG, "a"), (BIG, "b")]
        self.tells(("group", VOID, (), (("sum", "v", "s"),)), [(2 * BIG,)], {"void": rows})


class FirstRowsTest(WholesCase):
    def test_without_keys(self):
        rising = self.rows(SALE)
        for many in (0, 1, 2, 5, 6, 7, 60):
            with self.subTest(many):
                self.tells_first(("first", SALE, (), many), rising[:many])

    def test_one_key(self):
        self.tells_first(("first", SALE, (("n", "down"),), 4),
            [(10, "al", 9), (5, "bo", 1), (5, "bo", 1), (3, "al", 1)])
        self.tells_first(("first", SALE, (("who", "up"),), 4), [(-4, "", 1), (3, "al", 1), (3, "al", 2), (10, "al", 9)])
        # Of equal ones rising, whichever way the key goes.
        self.tells_first(("first", SALE, (("who", "down"),), 4), [
            (5, "bo", 1), (5, "bo", 1), (3, "al", 1), (3, "al", 2)])

    def test_two_and_three_keys(self):
        self.tells_first(("first", SALE, (("shop", "up"), ("n", "down")), 60), [
            (5, "bo", 1), (5, "bo", 1), (3, "al", 1), (-4, "", 1), (3, "al", 2), (10, "al", 9)])
        self.tells_first(("first", SALE, (("who", "down"), ("shop", "down"), ("n", "up")), 60), [
            (5, "bo", 1), (5, "bo", 1), (10, "al", 9), (3, "al", 2), (3, "al", 1), (-4, "", 1)])
        self.tells_first(("first", PAY, (("hi", "up"), ("to", "down")), 3), [
            (2, 1, "b", "a"), (1, 2, "a", "b"), (2, 2, "b", "b")])

    def test_none_one_and_alike(self):
        question = ("first", VOID, (("w", "down"), ("v", "up")), 2)
        self.tells_first(question, [])
        self.tells_first(question, [(1, "a")], {"void": [(1, "a")]})
        self.tells_first(question, [(1, "a"), (1, "a")], {"void": [(1, "a")] * 3})
        self.tells_first(question, [(1, "b"), (0, "a")], {"void": [(0, "a"), (1, "b"), (0, "a")]})
        self.tells_first(("first", VOID, (), 0), [], {"void": [(1, "a")]})

    def test_more_rows_than_may_be_first(self):
        rows = [(number, "a") for number in range(100)]
        self.tells_first(("first", VOID, (("v", "down"),), 60), rows[:39:-1], {"void": rows})


class WithinTest(WholesCase):
    def test_the_order_is_that_of_the_outermost(self):
        latest = ("first", SALE, (("n", "down"),), 3)
        self.tells(("where", latest, (("n", ">", ("value", 0)),)), [(5, "bo", 1), (5, "bo", 1), (10, "al", 9)])
        self.tells(("named", latest, ("a", "b", "c")), [(5, "bo", 1), (5, "bo", 1), (10, "al", 9)])
        self.tells(("keep", latest, ("shop",)), [(1,), (1,), (9,)])
        self.tells_first(("first", latest, (("shop", "down"),), 2), [(10, "al", 9), (5, "bo", 1)])
        self.tells_first(("first", latest, (), 2), [(5, "bo", 1), (5, "bo", 1)])

    def test_first_and_where_do_not_change_places(self):
        test = (("who", "=", ("value", "al")),)
        self.tells(("where", ("first", SALE, (), 2), test), [(3, "al", 1)])
        self.tells_first(("first", ("where", SALE, test), (), 2), [(3, "al", 1), (3, "al", 2)])

    def test_the_document_s_own(self):
        tests = (("n", ">", ("value", 3)), ("who", "=", ("value", "bo")))
        joined = ("join", ("where", SALE, tests), ("keep", SHOP, ("id", "town")), (("shop", "id"),))
        grouped = ("group", joined, ("town",), (("count", None, "many"),))
        self.tells_first(("first", grouped, (("many", "down"),), 5), [("bern", 2), ("rom", 2)])

    def test_groups_of_groups(self):
        inner = ("group", SALE, ("who",), (("count", None, "many"),))
        self.tells(("group", inner, (), (("sum", "many", "all"), ("most", "who", "last"))), [(6, "bo")])

    def test_of_size_twenty(self):
        question = SALE
        for number in range(19):
            question = ("named", question, ("a", "b", "c") if number % 2 else ("c", "a", "b"))
        self.tells(question, self.rows(SALE))

    def test_refused_as_head_of(self):
        for question in (("table", "none"), ("keep", SALE, ("zz",)), ("join", SALE, SALE, (("n", "n"),))):
            for call in (rows_of, whole):
                with self.assertRaises(ShardError):
                    call(HEADS, TABLES, question)


class OrderedTest(WholesCase):
    HEAD = HEADS["sale"]

    def test_all_rows(self):
        rows = TABLES["sale"]
        self.assertEqual(self.unchanged(ordered, self.HEAD, rows, ()), sorted(rows))
        self.assertEqual(self.unchanged(ordered, self.HEAD, rows, (("n", "down"),)), [
            (10, "al", 9), (5, "bo", 1), (5, "bo", 1), (3, "al", 1), (3, "al", 2), (-4, "", 1)])
        self.assertEqual(self.unchanged(ordered, self.HEAD, [], (("n", "down"), ("who", "up"))), [])

    def test_whatever_order_they_come_in(self):
        rows = [(2, "a", 1), (1, "b", 1), (1, "a", 2), (1, "a", 1), (1, "a", 1)]
        keys = (("who", "down"), ("n", "up"))
        for lot in itertools.permutations(rows):
            self.assertEqual(ordered(self.HEAD, list(lot), keys), [
                (1, "b", 1), (1, "a", 1), (1, "a", 1), (1, "a", 2), (2, "a", 1)])

    def test_more_than_sixty_rows(self):
        rows = [(number * 7 % 200, "a", 0) for number in range(200)]
        self.assertEqual([row[0] for row in ordered(self.HEAD, rows, (("n", "down"),))], list(range(199, -1, -1)))

    def test_by_pairs_of_rows(self):
        rows = [(n, who, shop) for n in (1, 2) for who in ("a", "b") for shop in (1, 2)] * 2
        names = ("n", "who", "shop")
        for chosen in itertools.permutations(names):
            for ways in itertools.product(("up", "down"), repeat=3):
                for many in range(4):
                    keys = tuple(zip(chosen, ways))[:many]
                    told = ordered(self.HEAD, rows, keys)
                    self.assertEqual(sorted(told), sorted(rows))
                    for row, after in zip(told, told[1:]):
                        self.assertTrue(self.stands_ahead(row, after, keys), (row, after, keys))

    def stands_ahead(self, row, after, keys):
        for name, way in keys:
            place = [column[0] for column in self.HEAD].index(name)
            if row[place] != after[place]:
                return (row[place] < after[place]) == (way == "up")
        return row <= after


class OwnListsTest(WholesCase):
    QUESTIONS = (
        SALE, ("where", SALE, (("n", ">", ("value", 0)),)), ("keep", SALE, ("n",)), ("named", SALE, ("a", "b", "c")),
        ("join", SALE, SHOP, (("shop", "id"),)), ("group", SALE, ("who",), (("count", None, "c"),)),
        ("first", SALE, (), 60), ("first", SALE, (("n", "down"),), 2),
    )

    def test_a_told_list_is_the_asker_s_own(self):
        tables = {name: list(rows) for name, rows in TABLES.items()}
        for call in (rows_of, whole):
            for question in self.QUESTIONS:
                with self.subTest(question):
                    told = call(HEADS, tables, question)
                    kept = list(told)
                    told.append("more")
                    told.reverse()
                    self.assertEqual(tables, TABLES)
                    self.assertEqual(call(HEADS, tables, question), kept)

    def test_what_is_handed_in_may_be_changed_behind(self):
        for call in (rows_of, whole):
            for question in self.QUESTIONS:
                with self.subTest(question):
                    heads, tables = dict(HEADS), {name: list(rows) for name, rows in TABLES.items()}
                    told = call(heads, tables, question)
                    kept = list(told)
                    for rows in tables.values():
                        rows.clear()
                    tables.clear()
                    heads.clear()
                    self.assertEqual(told, kept)
                    self.assertEqual(call(HEADS, TABLES, question), kept)

    def test_ordered_tells_a_new_list(self):
        for rows in ([], [(1, "a", 1)], sorted(TABLES["sale"])):
            for keys in ((), (("n", "up"),)):
                kept = list(rows)
                told = ordered(HEADS["sale"], rows, keys)
                told.append("more")
                self.assertEqual(rows, kept)
                self.assertEqual(ordered(HEADS["sale"], rows, keys), kept)


if __name__ == "__main__":
    unittest.main()
