"""The desk: each of its rows, what it answers, and what is refused."""

import unittest

from shardask.desk import Desk
from shardask.early import early
from shardask.errors import (
    BadTown, Busy, NoColumn, NoHouse, NoKind, NoMove, NoRow, NoSpan, NoTable, NotYet, NoWords, ShardError, TooWide,
    Twice)
from shardask.parts import sent
from shardask.planner import plan_of
from shardask.reading import read_question
from shardask.showing import shown_rows
from shardask.towns import Town
from shardask.wholes import whole
from tests.things import STRANGE, STRANGE_TUPLES

SALE = (("n", "number"), ("who", "word"), ("shop", "number"))
SHOP = (("id", "number"), ("town", "word"))
SALES = [(5, "bo", 1), (4, "al", 2), (9, "bo", 1), (5, "bo", 1), (-3, "", 4)]
SHOPS = [(1, "bern"), (2, "ulm"), (3, "ulm"), (4, "")]
SPANS = ("spans", "n", ((None, 0), (0, 2), (5, 1)))


def desk_of():
    desk = Desk(3)
    desk.say("table sale n:number who:word shop:number spans n 0 0:2 5:1")
    desk.say("table shop id:number town:word keys id")
    desk.say("table all id:number town:word copies")
    for row in SALES:
        desk.say("put sale " + shown_rows([row]))
    for row in SHOPS:
        desk.say("put shop " + shown_rows([row]))
        desk.say("put all " + shown_rows([row]))
    return desk


# The same, as a town.
TOWN = Town(3, {"sale": (SALE, SPANS, SALES), "shop": (SHOP, ("keys", "id"), SHOPS), "all": (SHOP, ("copies",), SHOPS)})
LOOKS = ("ask sale", "ask shop", "ask all", "cost sale group with count n", "cost sale first 60", "cost sale keep who",
         "cost sale join ( shop ) on shop id")


class DeskCase(unittest.TestCase):
    def refuses(self, error, desk, row):
        before = self.look(desk)
        with self.assertRaises(ShardError) as taken:
            desk.say(row)
        self.assertIs(taken.exception.__class__, error, row)
        self.assertIsNone(taken.exception.act)
        self.assertEqual(self.look(desk), before)

    def look(self, desk):
        """Whatever the desk tells of its tables; the cuts and moves, which it does not tell, from its store."""
        town = desk.store.town()
        told = [desk.say(row) for row in LOOKS if row.split()[1] in town.heads()]
        for name in sorted(town.heads()):
            told.append((name, town.placing(name), town.whole(name), desk.store.moving(name)))
        return told

    def says(self, desk, row, text):
        self.assertEqual(desk.say(row), text, row)


class TableTest(DeskCase):
    def begins(self, row, head, placing, houses=3):
        desk = Desk(houses)
        self.says(desk, row, "ok")
        name = row.split(" ")[1]
        town = desk.store.town()
        self.assertEqual((town.heads(), town.placing(name), town.whole(name)), ({name: head}, placing, []))
        self.says(desk, "ask " + name, "-")

    def test_each_placing(self):
        self.begins("table t a:number copies", (("a", "number"),), ("copies",))
        self.begins("table t a:number b:word keys b", (("a", "number"), ("b", "word")), ("keys", "b"))
        self.begins("table t a:word spans a 2", (("a", "word"),), ("spans", "a", ((None, 2),)))
        self.begins("table t a:word spans a 2 '':0 'ab':1", (("a", "word"),),
                    ("spans", "a", ((None, 2), ("", 0), ("ab", 1))))
        self.begins("table t b:word a:number spans a 0 -5:1 0:2 7:0", (("b", "word"), ("a", "number")),
                    ("spans", "a", ((None, 0), (-5, 1), (0, 2), (7, 0))))

    def test_names_like_the_desk_s_words(self):
        self.begins("table keys keys:number keys keys", (("keys", "number"),), ("keys", "keys"))
        self.begins("table copies copies:word copies", (("copies", "word"),), ("copies",))
        self.begins("table spans spans:number spans spans 0 1:2", (("spans", "number"),),
                    ("spans", "spans", ((None, 0), (1, 2))))
        self.begins("table ask number:word word:number keys word", (("number", "word"), ("word", "number")),
                    ("keys", "word"))

    def test_eight_columns_and_eight_cuts(self):
        columns = " ".join(name + ":number" for name in "abcdefgh")
        cuts = " ".join(f"{low}:{low % 3}" for low in range(1, 8))
        self.begins(f"table t {columns} spans h 0 {cuts}", tuple((name, "number") for name in "abcdefgh"),
                    ("spans", "h", ((None, 0),) + tuple((low, low % 3) for low in range(1, 8))))

    def test_no_words(self):
        desk = desk_of()
        for row in (
                "table", "table t", "table t copies", "table t keys a", "table t spans a 0", "table copies",
                "table t a:number", "table t a:number keys", "table t a:number spans", "table t a:number spans a",
                "table t a:number copies copies", "table t a:number copies a", "table t a:number keys a a",
                "table t a:number keys a b:word", "table t a:number heaps a",
                "table t a:number heaps a 0", "table t a:number heaps a 0 5:1", "table t a:number copies b:word",
                "table by a:number copies", "table T a:number copies", "table t A:number copies",
                "table t by:number copies", "table t a:numbers copies", "table t a: copies", "table t :number copies",
                "table t a copies", "table t a:number:word copies", "table t a:Number copies",
                "table t a number copies",
                "table t a:number keys by", "table t a:number keys 1", "table t a:number spans by 0",
                "table t a:number spans a a", "table t a:number spans a 1000", "table t a:number spans a -1",
                "table t a:number spans a 00", "table t a:number spans a 01", "table t a:number spans a '0'",
                "table t a:number spans a 0 5", "table t a:number spans a 0 5:", "table t a:number spans a 0 :1",
                "table t a:number spans a 0 5:1:2", "table t a:number spans a 0 05:1",
                "table t a:number spans a 0 5:01",
                "table t a:number spans a 0 -0:1", "table t a:number spans a 0 b:1",
                "table t a:number spans a 0 5:1000",
                "table t a:number spans a 0 5:-1", "table t a:number spans a 5:0", "table t a:number spans a None:0",
                "table t a:number spans a 0:0", "table t a:number spans a 0 5:1 ", "table t  a:number copies",
                "table  t a:number copies", "table t a:number copies ", " table t a:number copies",
                "table t a:number\tcopies", "table t a:number copies\n", "Table t a:number copies",
                "table tooolongg a:number copies", "table t a:number spans a 0 'abcdefghi':1",
                "table t a:number spans a 0 " + "1" * 61 + ":1", "table t a:number 1 copies"):
            self.refuses(NoWords, desk, row)

    def test_twice_ahead_of_bad_town(self):
        desk = desk_of()
        self.says(desk, "table new x:number copies", "ok")
        for rest in ("id:number copies", "id:number keys zz", "a:number a:number copies", "n:number spans n 3",
                     "n:number spans n 999 5:998"):
            for name in ("sale", "shop", "all", "new"):
                self.refuses(Twice, desk, "table " + name + " " + rest)
        # What is none of the desk's rows is refused ahead of it.
        self.refuses(NoWords, desk, "table sale copies")
        self.refuses(NoWords, desk, "table sale id:number heaps")

    def test_bad_town(self):
        desk = desk_of()
        nine = " ".join(name + ":number" for name in "abcdefghi")
        cuts = " ".join(f"{low}:0" for low in range(1, 9))
        for rest in ("a:number keys b", "a:number spans b 0", "a:number a:number copies", "a:number a:word copies",
                     nine + " copies", "a:number spans a 3", "a:number spans a 999", "a:number spans a 0 5:3",
                     "a:number spans a 0 5:1 5:2", "a:number spans a 0 5:1 4:2", "a:number spans a 0 'a':1",
                     "a:word spans a 0 1:1", "a:word spans a 0 'b':1 'a':2", "a:number spans a 0 " + cuts):
            self.refuses(BadTown, desk, "table t " + rest)
        self.says(desk, "table t a:number copies", "ok")

    def test_houses_of_the_desk(self):
        for houses in range(1, 7):
            desk = Desk(houses)
            self.refuses(BadTown, desk, f"table t a:number spans a {houses}")
            self.says(desk, f"table t a:number spans a {houses - 1}", "ok")


class PutAndDropTest(DeskCase):
    def test_put_and_drop(self):
        desk = Desk(3)
        desk.say("table t a:number b:word keys a")
        self.says(desk, "put t 3 'b'", "ok")
        self.says(desk, "put t -2 ''", "ok")
        self.says(desk, "put t 3 'b'", "ok")
        self.says(desk, "ask t", "-2 ''; 3 'b'; 3 'b'")
        self.says(desk, "drop t 3 'b'", "ok")
        self.says(desk, "ask t", "-2 ''; 3 'b'")
        self.says(desk, "drop t 3 'b'", "ok")
        self.says(desk, "drop t -2 ''", "ok")
        self.says(desk, "ask t", "-")

    def test_long_numbers(self):
        desk = Desk(2)
        desk.say("table t a:number copies")
        desk.say("put t " + "9" * 60)
        desk.say("put t " + "9" * 60)
        self.says(desk, "ask t group with sum a s", str(2 * (10 ** 60 - 1)))

    def test_refused(self):
        desk = desk_of()
        for word in ("put", "drop"):
            for row in ("", " sale", " sale ", " by 1", " 1 2", " Sale 5 'bo' 1", " sale 5 bo 1", " sale 5 'bo' 01",
                        " sale 5 'bo' 1 ", " sale  5 'bo' 1", " sale 5 'bo'  1", " sale 5\t'bo' 1", " sale 5, 'bo', 1",
                        " sale (5 'bo' 1)", " sale 5 'Bo' 1", " sale 5 'bo' -0", " sale 5 'bo' x", " 'sale' 5 'bo' 1",
                        " sale " + "1" * 61 + " 'bo' 1", " sale 5 'bo' 1\n", " none", " shop"):
                self.refuses(NoWords, desk, word + row)
            for row in (" none 1", " none 5 'bo' 1", " sales 5 'bo' 1"):
                self.refuses(NoTable, desk, word + row)
            for row in (" sale 5", " sale 5 'bo'", " sale 5 'bo' 1 1", " sale 'bo' 5 1", " sale 5 'bo' 'x'",
                        " shop 'x' 'y'", " all 1 1", " all" + " 1" * 9):
                self.refuses(NoRow, desk, word + row)
        for row in ("drop sale 5 'bo' 2", "drop shop 1 'ulm'", "drop all 0 'bern'"):
            self.refuses(NoRow, desk, row)


class MoveTest(DeskCase):
    def test_a_move(self):
        desk = desk_of()
        before = desk.say("ask sale")
        self.says(desk, "lend sale 2 0", "ok")
        self.says(desk, "carry sale 0", "0")
        self.says(desk, "carry sale 1", "2")
        self.assertEqual(desk.store.moving("sale"), (2, 0, (5, "bo", 1)))
        self.refuses(NotYet, desk, "settle sale")
        self.says(desk, "ask sale", before)
        self.says(desk, "carry sale 999", "1")
        self.says(desk, "carry sale 999", "0")
        self.says(desk, "settle sale", "ok")
        self.assertEqual(desk.store.town().placing("sale"), ("spans", "n", ((None, 0), (0, 2), (5, 0))))
        self.says(desk, "ask sale", before)

    def test_split(self):
        desk = desk_of()
        self.says(desk, "split sale 7", "ok")
        self.says(desk, "split sale -7", "ok")
        self.assertEqual(desk.store.town().placing("sale")[2], ((None, 0), (-7, 0), (0, 2), (5, 1), (7, 1)))
        desk.say("table w a:word spans a 1")
        self.says(desk, "split w ''", "ok")
        self.says(desk, "split w 'by'", "ok")
        self.assertEqual(desk.store.town().placing("w")[2], ((None, 1), ("", 1), ("by", 1)))

    def test_cost_hangs_on_where_rows_stand(self):
        desk = desk_of()
        self.says(desk, "cost sale group with count n", "2")
        # All spans brought to one house.
        for cut in (1, 2):
            for row in ("lend sale " + str(cut) + " 0", "carry sale 60", "settle sale"):
                desk.say(row)
        self.says(desk, "cost sale group with count n", "0")
        self.says(desk, "ask sale group with count n", "5")

    def test_no_words(self):
        desk = desk_of()
        desk.say("lend sale 0 1")
        for row in (
                "split", "split sale", "split sale 7 8", "split sale x", "split sale 07", "split sale 7 ", "split 7",
                "split by 7", "split sale  7", "split sale None", "split sale -0", "split sale 'abcdefghi'",
                "lend", "lend sale", "lend sale 0", "lend sale 0 1 2", "lend sale 0 1 ", "lend sale 00 1",
                "lend sale 0 01", "lend sale -1 0", "lend sale 0 -1", "lend sale 1000 0", "lend sale 0 1000",
                "lend sale 'a' 0", "lend sale 0 'a'", "lend sale a 0", "lend 0 1", "lend by 0 1", "lend sale  0 1",
                "lend sale 0 1.0", "lend sale -0 1", "lend sale 0 " + "1" * 60, "lend sale 0 +1",
                "carry", "carry sale", "carry sale 1 1", "carry sale -1", "carry sale 1000", "carry sale 01",
                "carry sale all", "carry sale 'a'", "carry 1", "carry by 1", "carry sale 1 ", "carry sale  1",
                "settle", "settle sale sale", "settle sale 1", "settle by", "settle ", "settle sale ", "settle 1",
                "settle  sale", "settle 'sale'"):
            self.refuses(NoWords, desk, row)

    def test_refused_as_by_the_store(self):
        desk = desk_of()
        for row in ("split none 1", "lend none 0 1", "carry none 1", "settle none", "lend none 999 999",
                    "carry none 999"):
            self.refuses(NoTable, desk, row)
        for name in ("shop", "all"):
            for row in (f"split {name} 1", f"lend {name} 0 1", f"carry {name} 1", f"settle {name}"):
                self.refuses(NoSpan, desk, row)
        for row in ("split sale 0", "split sale 5", "split sale 'a'", "split sale ''", "lend sale 3 0",
                    "lend sale 999 999"):
            self.refuses(NoSpan, desk, row)
        for row in ("lend sale 0 0", "lend sale 0 3", "lend sale 2 999", "lend sale 1 2"):
            self.refuses(NoHouse, desk, row)
        for row in ("carry sale 1", "carry sale 0", "settle sale"):
            self.refuses(NoMove, desk, row)
        desk.say("lend sale 0 1")
        for row in ("split sale 7", "split sale 'a'", "lend sale 0 1", "lend sale 1 0"):
            self.refuses(Busy, desk, row)
        self.refuses(NotYet, desk, "settle sale")
        self.refuses(NoSpan, desk, "lend sale 3 0")
        self.refuses(NoHouse, desk, "lend sale 0 0")

    def test_eight_cuts(self):
        desk = desk_of()
        for low in range(6, 11):
            self.says(desk, f"split sale {low}", "ok")
        self.refuses(NoSpan, desk, "split sale 11")


class AskTest(DeskCase):
    QUESTIONS = (
        "sale", "shop", "all", "sale where n > 4", "sale where n > 4 and who = 'bo'", "sale where n > 1000",
        "sale keep who", "shop named a b", "sale join ( shop ) on shop id", "sale join ( all ) on shop id",
        "sale join ( shop where town = 'ulm' ) on shop id keep n town",
        "sale group who with count many", "sale group with count many with sum n s with least who a with most who b",
        "sale where n > 100 group with count many", "sale first 2", "sale first 3 by n down", "sale first 0",
        "sale first 4 by who down by n up", "shop group town with count many first 1 by many down",
        "sale join ( shop ) on shop id group town with count many with sum n s first 5 by many down",
        "sale join ( shop ) on shop id where town = 'bern' and n > 6",
        "sale join ( sale keep n shop named m shop ) on shop shop where n < m",
        "sale first 3 by n down keep n", "all join ( shop named i t ) on id i where t ! town",
    )

    def test_against_the_whole_tables(self):
        desk = desk_of()
        for text in self.QUESTIONS:
            question = read_question(text)
            answer = whole(TOWN.heads(), TOWN.tables(), question)
            self.says(desk, "ask " + text, shown_rows(answer))
            plan = plan_of(TOWN, early(TOWN.heads(), question))
            self.says(desk, "cost " + text, str(sum(bundle[3] for bundle in sent(TOWN, plan))))

    def test_by_hand(self):
        desk = desk_of()
        self.says(desk, "ask sale", "-3 '' 4; 4 'al' 2; 5 'bo' 1; 5 'bo' 1; 9 'bo' 1")
        self.says(desk, "ask sale where n > 4", "5 'bo' 1; 5 'bo' 1; 9 'bo' 1")
        self.says(desk, "ask sale first 3 by n down", "9 'bo' 1; 5 'bo' 1; 5 'bo' 1")
        self.says(desk, "ask sale first 3 by n down keep n", "5; 5; 9")
        self.says(desk, "ask sale where n > 1000", "-")
        self.says(desk, "ask sale first 0", "-")
        self.says(desk, "ask sale group with sum n s with least who a", "20 ''")
        self.says(desk, "ask shop group town with count many first 1 by many down", "'ulm' 2")
        self.says(desk, "ask sale join ( shop ) on shop id group town with count many", "'' 1; 'bern' 3; 'ulm' 1")

    def test_costs_by_hand(self):
        desk = desk_of()
        self.says(desk, "cost sale", "0")
        self.says(desk, "cost all group town with count many", "0")
        # House 0 has one row, the others one and three: all but house 0's come.
        self.says(desk, "cost sale first 60", "4")
        self.says(desk, "cost sale first 1", "2")
        # Sales are dealt by shop: -3 from 0 to 1, 4 stays in 2, the others stay in 1.
        self.says(desk, "cost sale join ( shop ) on shop id", "1")
        self.says(desk, "cost sale join ( shop ) on shop id where n > 0", "0")
        self.says(desk, "cost sale join ( all ) on shop id", "0")

    def test_tests_are_moved_early(self):
        desk = desk_of()
        question = read_question("sale join ( shop ) on shop id where n > 0")
        self.assertGreater(sum(bundle[3] for bundle in sent(TOWN, plan_of(TOWN, question))), 0)
        self.says(desk, "cost sale join ( shop ) on shop id where n > 0", "0")

    def test_no_words(self):
        desk = desk_of()
        for word in ("ask", "cost"):
            for rest in ("", " ", " by", " sale ", "  sale", " sale where", " sale where n > 4 ", " sale  where n > 4",
                         " sale first 61", " ( sale )", " sale)", " sale\n", " sale; shop", " Sale", " 1", " 'sale'",
                         " sale" + " first 1" * 20, " sale where n = 1 and n = 1 and n = 1 and n = 1", "\tsale"):
                self.refuses(NoWords, desk, word + rest)

    def test_refused_as_in_seven(self):
        desk = desk_of()
        for word in ("ask ", "cost "):
            for text, error in (
                    ("none", NoTable), ("sale join ( none ) on shop id", NoTable), ("sale keep zz", NoColumn),
                    ("sale named a b", NoColumn), ("sale where zz = 1", NoColumn), ("sale where n = zz", NoColumn),
                    ("sale where n = 'a'", NoKind), ("sale where n = who", NoKind),
                    ("sale group with sum who s", NoKind),
                    ("sale join ( shop ) on shop town", NoKind), ("sale keep n n", Twice),
                    ("sale join ( sale ) on n n", Twice), ("sale first 1 by n up by n down", Twice),
                    ("sale group n with count n", Twice), ("sale group", TooWide),
                    ("sale join ( sale named a b c ) on n a join ( sale named d e f ) on n d "
                     "join ( sale named g h i ) on n g", TooWide)):
                self.refuses(error, desk, word + text)

    def test_while_a_span_is_lent(self):
        desk = desk_of()
        answers = [desk.say("ask " + text) for text in self.QUESTIONS]
        costs = [desk.say("cost " + text) for text in self.QUESTIONS]
        desk.say("lend sale 2 0")
        for _ in range(4):
            self.assertEqual([desk.say("ask " + text) for text in self.QUESTIONS], answers)
            self.assertEqual([desk.say("cost " + text) for text in self.QUESTIONS], costs)
            desk.say("carry sale 1")
        desk.say("settle sale")
        self.assertEqual([desk.say("ask " + text) for text in self.QUESTIONS], answers)


class OtherRowsTest(DeskCase):
    def test_texts_that_are_none_of_the_rows(self):
        desk = desk_of()
        for row in ("", " ", "x", "sale", "ok", "ask", "tables", "Ask sale", "ASK sale", "askk sale", "asksale",
                    "ask\tsale", "ask\nsale", " ask sale", "ask sale\n", "get sale", "move sale 0 1", "where n = 1",
                    "-",
                    "put", "drop", "table", "split", "lend", "settle", "carry", "cost", "\n", "table;", "moving sale",
                    "stands sale 0", "town", "begin t", "fall 0", "select", "None", "\u00e4", "ask sale\x00"):
            self.refuses(NoWords, desk, row)

    def test_things_that_are_no_text(self):
        desk = desk_of()
        for thing in STRANGE + STRANGE_TUPLES + [0, 1, ["ask", "sale"], ("ask", "sale"), b"ask sale", {"ask": "sale"}]:
            self.refuses(NoWords, desk, thing)

    def test_long_texts(self):
        desk = desk_of()
        for row in ("ask " + "t join ( " * 440, "put sale" + " 1" * 1900 + " x", "x" * 4000, " " * 4000,
                    "table t" + " a:number" * 400, "ask sale" + " group" * 600):
            self.refuses(NoWords, desk, row)

    def test_desks_that_are_none(self):
        for houses in STRANGE + STRANGE_TUPLES + [0, 7, -1, 100, "3", "", 3.0, 10 ** 50]:
            with self.assertRaises(ShardError) as taken:
                Desk(houses)
            self.assertIs(taken.exception.__class__, BadTown)
            self.assertIsNone(taken.exception.act)

    def test_a_desk_without_tables(self):
        for houses in range(1, 7):
            desk = Desk(houses)
            self.refuses(NoTable, desk, "ask t")
            self.refuses(NoTable, desk, "put t 1")
            self.refuses(NoTable, desk, "settle t")
            self.says(desk, "table t a:number keys a", "ok")

    def test_two_desks_beside_one_another(self):
        desk, other = desk_of(), desk_of()
        before = self.look(other)
        for row in ("put sale 7 'x' 7", "drop shop 1 'bern'", "split sale 7", "lend sale 0 2", "carry sale 1",
                    "table new a:number copies"):
            desk.say(row)
        self.assertEqual(self.look(other), before)
        self.refuses(NoTable, other, "ask new")
        self.assertEqual(desk.say("ask sale where n = 7"), "7 'x' 7")


if __name__ == "__main__":
    unittest.main()
