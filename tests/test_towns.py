import random
import unittest

from shardask.errors import BadTown, NoHouse, NoTable, ShardError
from shardask.towns import Town
from tests.things import STRANGE, STRANGE_TUPLES, Sulky, UnchangedCase, deep_tuple

NUMBERS = (("n", "number"),)
WORDS = (("w", "word"),)
HEAD = (("n", "number"), ("w", "word"))
COPIES = ("copies",)
BIG = 10 ** 60 - 1
LETTERS = "abcdefghijklmnopqrstuvwxyz"
STRANGE_NAMES = STRANGE + STRANGE_TUPLES + ["", "A", "abcdefghi", "where", "t ", 0, 1, ("t",), ["t"], {"t": 1}]
NO_HOUSES = STRANGE + STRANGE_TUPLES + ["", "0", "a", (0,), [0]]


def town_of(houses, head, placing, rows):
    return Town(houses, {"t": (head, placing, rows)})


def cuts_of(*pairs):
    return ("spans", "n", pairs)


class TownCase(UnchangedCase):
    def parts(self, houses, head, placing, rows):
        town = self.unchanged(Town, houses, {"t": (head, placing, rows)})
        return [town.part("t", house) for house in range(houses)]

    def refuses(self, error, call, *given):
        with self.assertRaises(ShardError) as taken:
            call(*given)
        self.assertIs(taken.exception.__class__, error)
        self.assertIsNone(taken.exception.act)

    def refuses_town(self, houses, tables):
        self.refuses(BadTown, Town, houses, tables)


class HousesTest(TownCase):
    def test_one_to_six(self):
        for houses in range(1, 7):
            with self.subTest(houses):
                self.assertEqual(Town(houses, {}).houses(), houses)

    def test_other_numbers(self):
        for houses in [0, 7, -1, 8, 60, BIG, -BIG, True, False, None, "", "1", "3", "a", 1.0, 2.5, (1,), [1]] + STRANGE:
            self.refuses_town(houses, {})
            self.refuses_town(houses, {"t": (HEAD, COPIES, [])})


class TellsTest(TownCase):
    TABLES = {
        "sale": (HEAD, ("keys", "w"), [(2, "b"), (1, "a"), (2, "b"), (-3, "")]),
        "shop": (WORDS, COPIES, [("z",), ("a",)]),
        "void": (NUMBERS, cuts_of((None, 2), (5, 0)), []),
    }

    def setUp(self):
        self.town = Town(3, self.TABLES)

    def test_heads(self):
        self.assertEqual(self.town.heads(), {"sale": HEAD, "shop": WORDS, "void": NUMBERS})

    def test_placing(self):
        self.assertEqual(self.town.placing("sale"), ("keys", "w"))
        self.assertEqual(self.town.placing("shop"), COPIES)
        self.assertEqual(self.town.placing("void"), ("spans", "n", ((None, 2), (5, 0))))

    def test_whole_rises_and_keeps_alike_rows(self):
        self.assertEqual(self.town.whole("sale"), [(-3, ""), (1, "a"), (2, "b"), (2, "b")])
        self.assertEqual(self.town.whole("shop"), [("a",), ("z",)])
        self.assertEqual(self.town.whole("void"), [])

    def test_tables(self):
        self.assertEqual(self.town.tables(), {
            "sale": [(-3, ""), (1, "a"), (2, "b"), (2, "b")], "shop": [("a",), ("z",)], "void": []})

    def test_parts(self):
        self.assertEqual([self.town.part("sale", house) for house in range(3)], [
            [(-3, "")], [(1, "a")], [(2, "b"), (2, "b")]])
        self.assertEqual([self.town.part("void", house) for house in range(3)], [[], [], []])

    def test_no_tables(self):
        town = Town(6, {})
        self.assertEqual((town.heads(), town.tables()), ({}, {}))
        for call in (town.placing, town.whole, lambda name: town.part(name, 0)):
            self.refuses(NoTable, call, "t")

    def test_many_tables_and_rows(self):
        tables = {letter: (NUMBERS, ("keys", "n"), [(number,) for number in range(200, 0, -1)]) for letter in LETTERS}
        town = Town(6, tables)
        self.assertEqual(sorted(town.heads()), list(LETTERS))
        self.assertEqual(town.whole("q"), [(number,) for number in range(1, 201)])


class CopiesTest(TownCase):
    def test_each_row_in_each_house(self):
        for houses in range(1, 7):
            rows = [(3, "c"), (1, "a"), (3, "c")]
            self.assertEqual(self.parts(houses, HEAD, COPIES, rows), [[(1, "a"), (3, "c"), (3, "c")]] * houses)
            self.assertEqual(self.parts(houses, HEAD, COPIES, []), [[]] * houses)


class KeysTest(TownCase):
    def test_numbers(self):
        rows = [(number,) for number in (5, 4, 3, 2, 1, 0, -1, -2, -3)]
        self.assertEqual(self.parts(1, NUMBERS, ("keys", "n"), rows), [sorted(rows)])
        self.assertEqual(self.parts(2, NUMBERS, ("keys", "n"), rows), [
            [(-2,), (0,), (2,), (4,)], [(-3,), (-1,), (1,), (3,), (5,)]])
        self.assertEqual(self.parts(3, NUMBERS, ("keys", "n"), rows), [
            [(-3,), (0,), (3,)], [(-2,), (1,), (4,)], [(-1,), (2,), (5,)]])
        self.assertEqual(self.parts(6, NUMBERS, ("keys", "n"), rows), [
            [(0,)], [(1,)], [(2,)], [(-3,), (3,)], [(-2,), (4,)], [(-1,), (5,)]])

    def test_long_numbers(self):
        self.assertEqual(self.parts(5, NUMBERS, ("keys", "n"), [(BIG,), (-BIG,)]), [[], [(-BIG,)], [], [], [(BIG,)]])

    def test_words(self):
        # "" is 0, a 1, z 26, aa 27 + 1, ba 2 * 27 + 1, az 27 + 26.
        rows = [("",), ("a",), ("z",), ("aa",), ("ba",), ("az",)]
        self.assertEqual(self.parts(5, WORDS, ("keys", "w"), rows), [
            [("",), ("ba",)], [("a",), ("z",)], [], [("aa",), ("az",)], []])
        self.assertEqual(self.parts(2, WORDS, ("keys", "w"), rows), [
            [("",), ("aa",), ("z",)], [("a",), ("az",), ("ba",)]])
        self.assertEqual(self.parts(1, WORDS, ("keys", "w"), rows), [sorted(rows)])

    def test_by_the_column_that_is_named(self):
        rows = [(1, "b"), (2, "a"), (1, "b"), (4, "")]
        self.assertEqual(self.parts(3, HEAD, ("keys", "n"), rows), [[], [(1, "b"), (1, "b"), (4, "")], [(2, "a")]])
        self.assertEqual(self.parts(3, HEAD, ("keys", "w"), rows), [[(4, "")], [(2, "a")], [(1, "b"), (1, "b")]])


class SpansTest(TownCase):
    def test_at_a_low_just_below_and_above(self):
        placing = cuts_of((None, 1), (-2, 0), (5, 2), (6, 1))
        rows = [(number,) for number in (9, 7, 6, 5, 4, 0, -1, -2, -3, -BIG, BIG)]
        self.assertEqual(self.parts(3, NUMBERS, placing, rows), [
            [(-2,), (-1,), (0,), (4,)], [(-BIG,), (-3,), (6,), (7,), (9,), (BIG,)], [(5,)]])

    def test_one_cut(self):
        self.assertEqual(self.parts(2, NUMBERS, cuts_of((None, 1)), [(3,), (-3,)]), [[], [(-3,), (3,)]])
        self.assertEqual(self.parts(1, NUMBERS, cuts_of((None, 0)), [(3,), (-3,)]), [[(-3,), (3,)]])

    def test_words(self):
        placing = ("spans", "w", ((None, 0), ("b", 1), ("bb", 2), ("c", 0)))
        rows = [("c",), ("bbb",), ("bb",), ("baz",), ("b",), ("azzz",), ("",), ("z",), ("b",)]
        self.assertEqual(self.parts(3, WORDS, placing, rows), [
            [("",), ("azzz",), ("c",), ("z",)], [("b",), ("b",), ("baz",)], [("bb",), ("bbb",)]])

    def test_the_empty_word_as_a_low(self):
        placing = ("spans", "w", ((None, 0), ("", 1)))
        self.assertEqual(self.parts(2, WORDS, placing, [("",), ("a",)]), [[], [("",), ("a",)]])

    def test_one_to_eight_cuts(self):
        for many in range(1, 9):
            cuts = ((None, 0),) + tuple((10 * number, number % 4) for number in range(1, many))
            rows = [(10 * number + more,) for number in range(9) for more in (-1, 0, 1)]
            parts = self.parts(4, NUMBERS, ("spans", "n", cuts), rows)
            for house, part in enumerate(parts):
                cut = [min(max(row[0] // 10, 0), many - 1) for row in part]
                self.assertEqual({number % 4 for number in cut} - {house}, set(), many)
            self.assertEqual(sorted(row for part in parts for row in part), sorted(rows))

    def test_by_the_column_that_is_named(self):
        placing = ("spans", "w", ((None, 1), ("b", 0)))
        self.assertEqual(self.parts(2, HEAD, placing, [(1, "b"), (9, "a")]), [[(1, "b")], [(9, "a")]])


class ColumnNamesTest(TownCase):
    def test_columns_called_like_placings(self):
        head = (("copies", "number"), ("keys", "number"), ("spans", "number"))
        rows = [(0, 1, 2), (1, 2, 0)]
        self.assertEqual(self.parts(3, head, ("keys", "copies"), rows), [[(0, 1, 2)], [(1, 2, 0)], []])
        self.assertEqual(self.parts(3, head, ("keys", "spans"), rows), [[(1, 2, 0)], [], [(0, 1, 2)]])
        self.assertEqual(self.parts(2, head, ("spans", "keys", ((None, 1), (2, 0))), rows), [[(1, 2, 0)], [(0, 1, 2)]])


class MadeTownsTest(unittest.TestCase):
    def test_each_row_stands_where_the_document_says(self):
        chance = random.Random(12)
        for _ in range(300):
            houses = chance.randint(1, 6)
            rows = [(chance.randint(-9, 9), "".join(chance.choices("abyz", k=chance.randint(0, 3))))
                    for _ in range(chance.choice((0, 1, 5, 30)))]
            name = chance.choice("nw")
            lows = sorted({row["nw".index(name)] for row in rows})
            lows = [None] + sorted(chance.sample(lows, chance.randint(0, min(7, len(lows)))))
            cuts = tuple((low, chance.randrange(houses)) for low in lows)
            for placing in (COPIES, ("keys", name), ("spans", name, cuts)):
                town = town_of(houses, HEAD, placing, rows)
                for house in range(houses):
                    stand = [row for row in rows if house in self.houses_of(placing, row, houses)]
                    self.assertEqual(town.part("t", house), sorted(stand))

    def houses_of(self, placing, row, houses):
        if placing == COPIES:
            return list(range(houses))
        value = row["nw".index(placing[1])]
        if placing[0] == "spans":
            return [house for low, house in placing[2] if low is None or low <= value][-1:]
        if isinstance(value, str):
            value = sum((LETTERS.index(letter) + 1) * 27 ** place for place, letter in enumerate(reversed(value)))
        return [house for house in range(houses) if (value - house) % houses == 0]


class BadTablesTest(TownCase):
    RIGHT = (HEAD, COPIES, [(1, "a")])

    def refuses_table(self, table):
        self.refuses_town(3, {"t": table})
        # Also beside right ones, ahead of them and behind them.
        self.refuses_town(3, {"s": self.RIGHT, "t": table})
        self.refuses_town(3, {"t": table, "s": self.RIGHT})

    def test_tables_that_are_no_dict(self):
        for tables in STRANGE + STRANGE_TUPLES + ["", "t", 0, [("t", self.RIGHT)], (("t", self.RIGHT),)]:
            if not isinstance(tables, dict) or tables:
                self.refuses_town(3, tables)

    def test_names(self):
        for name in ("", "A", "a b", "abcdefghi", "a1", "where", "table", "sum", 0, 1, None, True, ("t",), b"t", 1.5):
            self.refuses_town(3, {name: self.RIGHT})
            self.refuses_town(3, {"t": self.RIGHT, name: self.RIGHT})

    def test_what_is_no_table(self):
        for table in STRANGE + STRANGE_TUPLES + [
                "", 1, list(self.RIGHT), self.RIGHT[:2], self.RIGHT[:1], self.RIGHT + (None,), self.RIGHT[::-1],
                {"head": HEAD}]:
            self.refuses_table(table)

    def test_heads(self):
        wide = tuple((letter, "number") for letter in LETTERS[:9])
        Town(3, {"t": (wide[:8], COPIES, [])})
        heads = STRANGE + STRANGE_TUPLES + [
            "", "n", 1, list(HEAD), [], (), wide, (("n", "number"), ("n", "word")), (("n", "text"),),
            (("where", "number"),), (("", "number"),), (["n", "number"],), (("n",),), (("n", "number", 1),)]
        for head in heads:
            self.refuses_table((head, COPIES, []))

    def test_rows(self):
        rows = [
            None, (), ((1, "a"),), "", "ab", 0, {}, {(1, "a"): 1}, range(0), Sulky(), set(), frozenset(), iter([])]
        for thing in rows:
            self.refuses_table((HEAD, COPIES, thing))

    def test_a_row_that_is_none_of_the_head(self):
        wrong = STRANGE + STRANGE_TUPLES + [
            "", "ab", 1, [1, "a"], (1,), (1, "a", 2), ("a", 1), (True, "a"), (False, ""), (None, "a"), (1, None),
            (1, 1), ("1", "a"), (1.0, "a"), (1, "A"), (1, "abcdefghi"), (1, " "), ((1, "a"),), (1, ["a"]), (1, Sulky())]
        for row in wrong:
            for rows in ([row], [(1, "a"), row], [row, (1, "a")]):
                self.refuses_table((HEAD, COPIES, rows))
                self.refuses_table((HEAD, ("keys", "n"), rows))
                self.refuses_table((HEAD, cuts_of((None, 0), (1, 1)), rows))


class BadPlacingsTest(TownCase):
    def refuses_placing(self, *placings):
        for placing in placings:
            for rows in ([], [(1, "a")]):
                self.refuses(BadTown, town_of, 3, HEAD, placing, rows)

    def test_what_is_no_placing(self):
        self.refuses_placing(*STRANGE, *STRANGE_TUPLES, "", "copies", "keys", 0, ["copies"], ["keys", "n"],
                             ["spans", "n", ((None, 0),)], ("copy",), ("Copies",), ("key", "n"), ("span", "n", ()),
                             (("copies",),), (b"copies",), ({"copies": 1},))

    def test_other_words(self):
        for word in ("", "span", "Spans", "key", "copy", "cuts", "table", None, 0, True, ("spans",), ["keys"], Sulky()):
            self.refuses_placing((word,), (word, "n"), (word, "n", ((None, 0),)))

    def test_copies_and_keys(self):
        self.refuses_placing(("copies", "n"), ("copies", None), ("copies", ()), ("copies", "n", ((None, 0),)))
        self.refuses_placing(("keys",), ("keys", "n", "w"), ("keys", "n", ((None, 0),)), ("keys", ("n",)),
                             ("keys", ["n"]))

    def test_a_column_that_is_not_there(self):
        for name in STRANGE + STRANGE_TUPLES + ["zz", "", "N", "nn", "number", "t", 0]:
            self.refuses_placing(("keys", name), ("spans", name, ((None, 0),)))

    def test_the_parts_of_spans(self):
        cuts = ((None, 0),)
        self.refuses_placing(("spans",), ("spans", "n"), ("spans", cuts), ("spans", "n", cuts, cuts),
                             ("spans", cuts, "n"), ("keys", "n", cuts))

    def test_cuts_that_are_no_tuple_of_pairs(self):
        for cuts in STRANGE + STRANGE_TUPLES + ["", "ab", 0, [(None, 0)], (None, 0), ((None, 0), None), ((None,),),
                                                ((None, 0, 0),), ([None, 0],), ((None, 0), [1, 0]), ((None, 0), (1,)),
                                                ((None, 0), (1, 0, 0)), ((None, 0), 1), {(None, 0): 1}]:
            self.refuses_placing(("spans", "n", cuts))

    def test_none_and_nine(self):
        cuts = ((None, 0),) + tuple((low, 0) for low in range(8))
        town_of(3, HEAD, ("spans", "n", cuts[:8]), [(1, "a")])
        self.refuses_placing(("spans", "n", ()), ("spans", "n", cuts), ("spans", "n", cuts + ((9, 0),)))

    def test_the_lows(self):
        # A low in the first, no low in another.
        self.refuses_placing(cuts_of((0, 0)), cuts_of((0, 0), (1, 0)), cuts_of((1, 0), (None, 0)),
                             ("spans", "w", (("", 0),)), cuts_of((None, 0), (None, 0)),
                             cuts_of((None, 0), (1, 0), (None, 0)))
        # Lows that do not rise.
        self.refuses_placing(cuts_of((None, 0), (2, 0), (1, 0)), cuts_of((None, 0), (1, 0), (1, 1)),
                             cuts_of((None, 0), (1, 0), (3, 0), (2, 0)), cuts_of((None, 0), (9, 0), (10, 0), (-1, 0)),
                             ("spans", "w", ((None, 0), ("b", 0), ("ab", 0))),
                             ("spans", "w", ((None, 0), ("a", 0), ("a", 0))))
        # Lows of the other kind.
        self.refuses_placing(cuts_of((None, 0), ("a", 0)), cuts_of((None, 0), (1, 0), ("a", 0)),
                             cuts_of((None, 0), ("", 0), (1, 0)), ("spans", "w", ((None, 0), (1, 0))),
                             ("spans", "w", ((None, 0), ("a", 0), (1, 0))))
        town_of(3, HEAD, ("spans", "w", ((None, 0), ("a", 0), ("ab", 1), ("b", 2))), [(1, "a")])

    def test_lows_that_are_no_values(self):
        for low in STRANGE + STRANGE_TUPLES + ["A", "abcdefghi", "1", (1,), [1], deep_tuple(5)]:
            self.refuses_placing(cuts_of((None, 0), (low, 0)), cuts_of((None, 0), (-5, 0), (low, 0)),
                                 ("spans", "w", ((None, 0), (low, 0))), ("spans", "w", ((None, 0), ("", 0), (low, 0))))
            if low is not None:
                self.refuses_placing(cuts_of((low, 0)))

    def test_houses_that_are_none(self):
        for house in NO_HOUSES + [-1, 3, 4, 6, BIG]:
            self.refuses_placing(cuts_of((None, house)), cuts_of((None, 0), (1, house)),
                                 cuts_of((None, 0), (1, house), (2, 0)))
        for houses in range(1, 7):
            town_of(houses, HEAD, cuts_of((None, houses - 1), (1, 0)), [])
            self.refuses(BadTown, town_of, houses, HEAD, cuts_of((None, 0), (1, houses)), [])


class NoTableNoHouseTest(TownCase):
    def setUp(self):
        self.town = town_of(3, HEAD, COPIES, [(1, "a")])

    def test_a_name_that_is_none(self):
        for name in STRANGE_NAMES + ["s", "tt"]:
            self.refuses(NoTable, self.town.placing, name)
            self.refuses(NoTable, self.town.whole, name)
            self.refuses(NoTable, self.town.part, name, 0)

    def test_a_house_that_is_none(self):
        for house in NO_HOUSES + [-1, 3, 4, BIG, -BIG]:
            self.refuses(NoHouse, self.town.part, "t", house)

    def test_both(self):
        for name in STRANGE_NAMES + ["s"]:
            for house in (3, -1, None, True, [], "t", Sulky()):
                self.refuses(NoTable, self.town.part, name, house)

    def test_each_house_there_is(self):
        for houses in range(1, 7):
            town = town_of(houses, HEAD, ("keys", "n"), [])
            for house in range(houses):
                self.assertEqual(town.part("t", house), [])
            self.refuses(NoHouse, town.part, "t", houses)


class OwnListsTest(TownCase):
    def made(self):
        return {
            "k": (HEAD, ("keys", "n"), [(2, "b"), (1, "a"), (1, "a")]),
            "c": (WORDS, COPIES, [("b",), ("a",)]),
            "s": (NUMBERS, cuts_of((None, 1), (2, 0)), [(3,), (1,)]),
        }

    def all_told(self, town):
        return (town.houses(), town.heads(), town.tables(), [town.placing(name) for name in "kcs"],
                [town.whole(name) for name in "kcs"], [town.part(name, house) for name in "kcs" for house in (0, 1)])

    def test_what_was_handed_in_is_changed(self):
        tables = self.made()
        town = Town(2, tables)
        told = self.all_told(town)
        tables["k"][2].append((7, "q"))
        tables["k"][2].append("no row")
        tables["c"][2].clear()
        tables["s"][2].reverse()
        tables["s"][2].pop()
        self.assertEqual(self.all_told(town), told)
        tables["more"] = tables["k"]
        tables["k"] = tables["c"]
        tables.pop("s")
        self.assertEqual(self.all_told(town), told)
        tables.clear()
        self.assertEqual(self.all_told(town), told)
        self.assertEqual(told, self.all_told(Town(2, self.made())))

    def test_what_was_told_is_changed(self):
        town = Town(2, self.made())
        told = self.all_told(town)
        heads, tables = town.heads(), town.tables()
        heads["k"] = WORDS
        heads.pop("c")
        tables["k"].append((8, "q"))
        tables["c"].clear()
        tables.pop("s")
        for name in "kcs":
            town.whole(name).append("more")
            town.whole(name).clear()
            for house in (0, 1):
                town.part(name, house).append("more")
                town.part(name, house).clear()
        self.assertEqual(self.all_told(town), told)

    def test_what_was_told_is_the_asker_s(self):
        town = Town(2, self.made())
        told = self.all_told(town)
        for rows in town.tables().values():
            rows.append("more")
        town.part("c", 1).append("more")
        self.assertEqual(told, self.all_told(Town(2, self.made())))
        # Copies stand in each house, yet each told list is one of its own.
        first, other = town.part("c", 0), town.part("c", 1)
        first.clear()
        self.assertEqual(other, [("a",), ("b",)])

    def test_nothing_handed_in_is_changed(self):
        tables = self.made()
        town = self.unchanged(Town, 2, tables)
        self.all_told(town)
        town.tables()["k"].clear()
        self.assertEqual(tables, self.made())

    def test_two_towns_of_the_same_lists(self):
        tables = self.made()
        town, other = Town(2, tables), Town(2, tables)
        told = self.all_told(other)
        town.tables()["k"].clear()
        town.heads().clear()
        town.whole("c").append("more")
        self.assertEqual(self.all_told(other), told)
        rows = [(1,), (0,)]
        shared = Town(2, {"a": (NUMBERS, COPIES, rows), "b": (NUMBERS, ("keys", "n"), rows)})
        shared.whole("a").clear()
        rows.append((5,))
        self.assertEqual(shared.tables(), {"a": [(0,), (1,)], "b": [(0,), (1,)]})

    def test_a_refused_town_changes_nothing(self):
        tables = self.made()
        tables["z"] = (HEAD, COPIES, [(1, 1)])
        kept = repr(tables)
        self.refuses_town(2, tables)
        self.assertEqual(repr(tables), kept)


if __name__ == "__main__":
    unittest.main()
