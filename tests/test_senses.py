"""The sense of each act over each spread, and what is refused at an act."""

import itertools
import unittest

from shardask.errors import (
    NoColumn, NoHouse, NoKind, NoQuestion, NoTable, ShardError, TooWide, Twice, Unsound)
from shardask.plans import senses
from shardask.questions import head_of
from shardask.towns import Town
from tests.things import UnchangedCase

HEAD = (("a", "number"), ("b", "word"), ("x", "number"))
OTHER = (("d", "number"), ("e", "word"), ("y", "number"))
WIDE = tuple((name, "number") for name in "ghijklmo")
HOUSES = 3
TOWN = Town(HOUSES, {
    "c": (HEAD, ("copies",), [(1, "p", 2)]), "k": (HEAD, ("keys", "a"), [(1, "p", 2)]),
    "s": (HEAD, ("spans", "a", ((None, 2), (5, 0))), [(1, "p", 2)]),
    "oc": (OTHER, ("copies",), []), "ok": (OTHER, ("keys", "d"), []), "os": (OTHER, ("spans", "e", ((None, 0),)), []),
    "w": (WIDE, ("copies",), []),
})
COPIED, LOOSE, DEALT, AT = ("copied",), ("loose",), ("dealt", "a"), ("at", 1)
# Acts of each spread, a's head at 0 to 3 and the other head at 4 to 8; 9 is dealt by another column.
AHEAD = [
    ("scan", "c"), ("scan", "k"), ("scan", "s"), ("bring", 2, 1),
    ("scan", "oc"), ("scan", "ok"), ("scan", "os"), ("bring", 6, 1), ("bring", 6, 2),
    ("deal", 2, "x"),
]
C, K, S, ATS, OC, OK, OS, OAT, OELSE, DX = range(10)
SPREADS = {C: COPIED, K: DEALT, S: LOOSE, ATS: AT, OC: COPIED, OK: ("dealt", "d"), OS: LOOSE, OAT: AT, OELSE: ("at", 2),
           DX: ("dealt", "x")}
TABLES = {C: "c", K: "k", S: "s", ATS: "s", OC: "oc", OK: "ok", OS: "os", OAT: "os", OELSE: "os", DX: "s"}
COUNT = ("count", None, "n")
TEST = ("a", ">", ("value", 0))
N = len(AHEAD)


def asked(number):
    return ("table", TABLES[number])


class SensesCase(UnchangedCase):
    def senses(self, *acts):
        return self.unchanged(lambda plan: senses(TOWN, plan), AHEAD + list(acts))

    def tells(self, acts, whole, question, spread):
        told = self.senses(*acts)
        self.assertEqual(told[-1], (whole, question, spread), acts)
        self.assertIs(told[-1][0], whole)
        self.assertEqual(len(told), N + len(acts))

    def tells_spread(self, spread, *acts):
        self.assertEqual(self.senses(*acts)[-1][2], spread, acts)

    def refuses(self, error, *acts):
        """The last of these acts is the one that is refused."""
        self.refuses_at(error, N + len(acts) - 1, *acts)
        # Whatever comes behind it, another fault too.
        self.refuses_at(error, N + len(acts) - 1, *acts, ("scan", "none"))
        self.refuses_at(error, N + len(acts) - 1, *acts, ("merge", 0), ("bring", 0, -1))

    def refuses_at(self, error, number, *acts):
        with self.assertRaises(ShardError) as taken:
            self.senses(*acts)
        self.assertIs(taken.exception.__class__, error, acts)
        self.assertEqual(taken.exception.act, number, acts)


class ScanAndSendingTest(SensesCase):
    def test_the_acts_ahead(self):
        self.assertEqual(self.senses(), [(True, asked(number), SPREADS[number]) for number in range(N)])

    def test_scan_alone(self):
        for table, spread in (("c", COPIED), ("k", DEALT), ("s", LOOSE)):
            self.assertEqual(senses(TOWN, [("scan", table)]), [(True, ("table", table), spread)])

    def test_sending_whole_rows(self):
        for number in range(4):
            for house in range(HOUSES):
                self.tells([("bring", number, house)], True, asked(number), ("at", house))
            for name in ("a", "b", "x"):
                self.tells([("deal", number, name)], True, asked(number), ("dealt", name))
            self.tells([("copy", number)], True, asked(number), COPIED)

    def test_sending_halves(self):
        for number in range(4):
            half = ("part", number, ("b",), (COUNT,))
            question = ("group", asked(number), ("b",), (COUNT,))
            self.tells([half, ("deal", N, "b")], False, question, ("dealt", "b"))
            self.tells([half, ("deal", N, "n")], False, question, ("dealt", "n"))
            self.tells([half, ("copy", N)], False, question, COPIED)
            self.tells([half, ("bring", N, 0)], False, question, ("at", 0))
            cut = ("cut", number, (("b", "down"),), 4)
            question = ("first", asked(number), (("b", "down"),), 4)
            self.tells([cut, ("deal", N, "x")], False, question, ("dealt", "x"))
            self.tells([cut, ("copy", N)], False, question, COPIED)
            self.tells([cut, ("bring", N, 2)], False, question, ("at", 2))

    def test_sending_of_what_was_sent(self):
        self.tells([("copy", S), ("deal", N, "b"), ("bring", N + 1, 0), ("deal", N + 2, "x")],
                   True, asked(S), ("dealt", "x"))


class OwnRowsTest(SensesCase):
    def test_where(self):
        for number in (C, K, S, ATS, DX):
            self.tells([("where", number, (TEST,))], True, ("where", asked(number), (TEST,)), SPREADS[number])

    def test_keep(self):
        for number in (C, S, ATS):
            for names in (("a",), ("b",), ("x", "a")):
                self.tells([("keep", number, names)], True, ("keep", asked(number), names), SPREADS[number])
        for names in (("a",), ("x", "a"), ("b", "x", "a")):
            self.tells([("keep", K, names)], True, ("keep", asked(K), names), DEALT)
        for names in (("b",), ("x",), ("b", "x")):
            self.tells([("keep", K, names)], True, ("keep", asked(K), names), LOOSE)

    def test_named(self):
        names = ("f", "g", "h")
        for number in (C, S, ATS):
            self.tells([("named", number, names)], True, ("named", asked(number), names), SPREADS[number])
        self.tells([("named", K, names)], True, ("named", asked(K), names), ("dealt", "f"))
        self.tells([("named", DX, names)], True, ("named", asked(DX), names), ("dealt", "h"))
        # The old name may be a new one, of another column.
        self.tells([("named", K, ("x", "b", "a"))], True, ("named", asked(K), ("x", "b", "a")), ("dealt", "x"))
        kept = ("keep", asked(K), ("x", "a"))
        self.tells([("keep", K, ("x", "a")), ("named", N, ("a", "z"))], True, ("named", kept, ("a", "z")),
                   ("dealt", "z"))

    def test_group(self):
        for number in (C, ATS):
            for names in ((), ("a",), ("b", "x")):
                self.tells([("group", number, names, (COUNT,))], True, ("group", asked(number), names, (COUNT,)),
                           SPREADS[number])
        for names in (("a",), ("b", "a")):
            self.tells([("group", K, names, (COUNT,))], True, ("group", asked(K), names, (COUNT,)), DEALT)

    def test_part(self):
        for number in (C, S, ATS):
            for names in ((), ("a",), ("b", "x")):
                self.tells([("part", number, names, (COUNT,))], False, ("group", asked(number), names, (COUNT,)),
                           SPREADS[number])
        for names in (("a",), ("b", "a")):
            self.tells([("part", K, names, (COUNT,))], False, ("group", asked(K), names, (COUNT,)), DEALT)
        for names in ((), ("b",), ("x", "b")):
            self.tells([("part", K, names, (COUNT,))], False, ("group", asked(K), names, (COUNT,)), LOOSE)
        # A sum called like the dealt column is not among the names.
        self.tells_spread(LOOSE, ("part", K, ("b",), (("sum", "a", "a"),)))

    def test_first(self):
        for number in (C, ATS):
            self.tells([("first", number, (("b", "up"),), 3)], True, ("first", asked(number), (("b", "up"),), 3),
                       SPREADS[number])

    def test_cut(self):
        for number in (C, K, S, ATS, DX):
            self.tells([("cut", number, (), 3)], False, ("first", asked(number), (), 3), SPREADS[number])

    def test_merge_of_half_a_group(self):
        for number in (C, ATS):
            for names in ((), ("a",), ("x", "b")):
                self.tells([("part", number, names, (COUNT,)), ("merge", N)], True,
                           ("group", asked(number), names, (COUNT,)), SPREADS[number])
        self.tells([("part", K, ("a", "b"), (COUNT,)), ("merge", N)], True,
                   ("group", asked(K), ("a", "b"), (COUNT,)), DEALT)
        for send, spread in ((("deal", N, "b"), ("dealt", "b")), (("copy", N), COPIED), (("bring", N, 2), ("at", 2))):
            self.tells([("part", S, ("b",), (COUNT,)), send, ("merge", N + 1)], True,
                       ("group", asked(S), ("b",), (COUNT,)), spread)

    def test_merge_of_half_a_first(self):
        for number in (C, ATS):
            self.tells([("cut", number, (), 3), ("merge", N)], True, ("first", asked(number), (), 3), SPREADS[number])
        for number in (K, S):
            for send, spread in ((("copy", N), COPIED), (("bring", N, 0), ("at", 0))):
                self.tells([("cut", number, (), 3), send, ("merge", N + 1)], True, ("first", asked(number), (), 3),
                           spread)


class JoinTest(SensesCase):
    PAIRS = (("a", "d"),)

    def joins(self, first, other, spread, pairs=PAIRS):
        self.tells([("join", first, other, pairs)], True, ("join", asked(first), asked(other), pairs), spread)

    def test_the_other_copied(self):
        for first in (C, K, S, ATS, DX):
            for pairs in (self.PAIRS, (("b", "e"),), (("x", "y"), ("a", "d"))):
                self.joins(first, OC, SPREADS[first], pairs)

    def test_the_first_copied(self):
        for other in (OS, OAT, OELSE):
            self.joins(C, other, SPREADS[other])
        self.joins(C, OK, ("dealt", "a"))
        self.joins(C, OK, ("dealt", "x"), (("x", "d"),))
        self.joins(C, OK, ("dealt", "x"), (("b", "e"), ("a", "y"), ("x", "d")))
        # No pair has d: it is a column of the join and keeps its name.
        self.joins(C, OK, ("dealt", "d"), (("b", "e"),))

    def test_both_dealt_by_a_pair(self):
        self.joins(K, OK, DEALT)
        self.joins(K, OK, DEALT, (("b", "e"), ("a", "d")))
        self.joins(DX, OK, ("dealt", "x"), (("x", "d"),))
        self.refuses(Unsound, ("join", K, OK, (("b", "e"),)))
        self.refuses(Unsound, ("join", DX, OK, self.PAIRS))
        # Each of them is in a pair, but not in one.
        self.refuses(Unsound, ("join", K, OK, (("a", "y"), ("x", "d"))))
        # The names are alike, the columns are not paired.
        self.refuses(Unsound, ("named", OK, ("a", "q", "y")), ("join", K, N, (("a", "y"), ("x", "a"))))

    def test_both_at_one_house(self):
        self.joins(ATS, OAT, AT)
        self.joins(ATS, OAT, AT, (("b", "e"),))
        self.refuses(Unsound, ("join", ATS, OELSE, self.PAIRS))

    def test_all_else_is_unsound(self):
        sound = [(C, other) for other in (OC, OK, OS, OAT, OELSE)] + [(first, OC) for first in (K, S, ATS, DX)]
        sound += [(K, OK), (ATS, OAT)]
        for first, other in itertools.product((C, K, S, ATS, DX), (OC, OK, OS, OAT, OELSE)):
            if (first, other) in sound:
                self.senses(("join", first, other, self.PAIRS))
            else:
                self.refuses(Unsound, ("join", first, other, self.PAIRS))

    def test_which_comes_first(self):
        # Both are copied: the first one's spread, which is copied too.
        self.joins(C, OC, COPIED)
        # The other is copied and the first dealt or at a house: the first one's, not what a pair would make of it.
        self.joins(K, OC, DEALT, (("x", "d"),))
        self.tells_spread(("dealt", "d"), ("join", OK, C, (("d", "a"),)))
        self.tells_spread(DEALT, ("join", K, OC, (("b", "e"),)))
        self.tells_spread(("at", 2), ("join", OELSE, C, (("d", "x"),)))

    def test_of_an_act_with_itself(self):
        pairs = (("a", "a"), ("b", "b"), ("x", "x"))
        for number, spread in ((C, COPIED), (K, DEALT), (ATS, AT), (DX, ("dealt", "x"))):
            self.joins(number, number, spread, pairs)
        self.refuses(Unsound, ("join", S, S, pairs))

    def test_behind_a_join(self):
        self.tells_spread(DEALT, ("join", K, OK, self.PAIRS), ("keep", N, ("y", "a")))
        self.tells_spread(LOOSE, ("join", K, OK, self.PAIRS), ("keep", N, ("y", "b")))
        self.tells_spread(("dealt", "u"), ("join", C, OK, (("b", "e"),)), ("named", N, ("r", "s", "t", "u", "v")))


class QuestionsTest(SensesCase):
    def test_a_plan_s_questions(self):
        plan = [
            ("scan", "s"), ("where", 0, (TEST,)), ("keep", 1, ("a", "b")), ("scan", "oc"),
            ("join", 2, 3, (("a", "d"),)), ("part", 4, ("e",), (COUNT,)), ("deal", 5, "e"), ("merge", 6),
            ("cut", 7, (("n", "down"),), 2), ("bring", 8, 0), ("merge", 9), ("named", 10, ("u", "v"))]
        kept = ("keep", ("where", ("table", "s"), (TEST,)), ("a", "b"))
        joined = ("join", kept, ("table", "oc"), (("a", "d"),))
        grouped = ("group", joined, ("e",), (COUNT,))
        latest = ("first", grouped, (("n", "down"),), 2)
        self.assertEqual(senses(TOWN, plan), [
            (True, ("table", "s"), LOOSE), (True, kept[1], LOOSE), (True, kept, LOOSE), (True, ("table", "oc"), COPIED),
            (True, joined, LOOSE), (False, grouped, LOOSE), (False, grouped, ("dealt", "e")),
            (True, grouped, ("dealt", "e")), (False, latest, ("dealt", "e")), (False, latest, ("at", 0)),
            (True, latest, ("at", 0)), (True, ("named", latest, ("u", "v")), ("at", 0))])
        self.assertEqual(head_of(TOWN.heads(), latest), (("e", "word"), ("n", "number")))

    def test_a_plan_whose_last_act_is_half_is_taken(self):
        told = senses(TOWN, [("scan", "s"), ("cut", 0, (), 1)])
        self.assertEqual(told[-1], (False, ("first", asked(S), (), 1), LOOSE))

    def test_acts_that_nobody_goes_by(self):
        self.assertEqual(len(senses(TOWN, [("scan", "s"), ("cut", 0, (), 1), ("scan", "c")])), 3)


class RefusedTest(SensesCase):
    def test_no_table(self):
        self.refuses(NoTable, ("scan", "none"))
        with self.assertRaises(NoTable) as taken:
            senses(Town(1, {}), [("scan", "c")])
        self.assertEqual(taken.exception.act, 0)

    def test_no_column(self):
        for number in (C, K, S, ATS):
            self.refuses(NoColumn, ("where", number, (("zz", "=", ("value", 1)),)))
            self.refuses(NoColumn, ("where", number, (("a", "=", ("column", "d")),)))
            self.refuses(NoColumn, ("keep", number, ("a", "zz")))
            self.refuses(NoColumn, ("named", number, ("f", "g")))
            self.refuses(NoColumn, ("join", number, OC, (("d", "d"),)))
            self.refuses(NoColumn, ("join", number, OC, (("a", "a"),)))
            for word in ("group", "part"):
                self.refuses(NoColumn, (word, number, ("zz",), ()))
                self.refuses(NoColumn, (word, number, ("a",), (("sum", "zz", "n"),)))
            for word in ("first", "cut"):
                self.refuses(NoColumn, (word, number, (("zz", "up"),), 1))
            self.refuses(NoColumn, ("deal", number, "zz"))
            self.refuses(NoColumn, ("deal", number, "d"))

    def test_no_column_of_what_is_dealt(self):
        # The head is that of the act that is dealt, half ones too.
        self.refuses(NoColumn, ("keep", S, ("b",)), ("deal", N, "a"))
        self.refuses(NoColumn, ("named", S, ("f", "g", "h")), ("deal", N, "a"))
        self.refuses(NoColumn, ("part", S, ("b",), (COUNT,)), ("deal", N, "a"))
        self.refuses(NoColumn, ("join", S, OC, (("a", "d"),)), ("deal", N, "d"))
        self.senses(("part", S, ("b",), (COUNT,)), ("deal", N, "n"))

    def test_no_kind(self):
        self.refuses(NoKind, ("where", K, (("a", "=", ("value", "p")),)))
        self.refuses(NoKind, ("where", K, (("a", "=", ("column", "b")),)))
        self.refuses(NoKind, ("join", K, OC, (("a", "e"),)))
        for word in ("group", "part"):
            self.refuses(NoKind, (word, C, ("a",), (("sum", "b", "n"),)))

    def test_twice(self):
        self.refuses(Twice, ("keep", K, ("a", "a")))
        self.refuses(Twice, ("named", K, ("f", "f", "g")))
        self.refuses(Twice, ("join", K, C, (("a", "a"),)))
        self.refuses(Twice, ("join", K, OC, (("a", "d"), ("x", "d"))))
        for word in ("group", "part"):
            self.refuses(Twice, (word, C, ("a", "a"), ()))
            self.refuses(Twice, (word, C, ("a",), (("most", "x", "a"),)))
        for word in ("first", "cut"):
            self.refuses(Twice, (word, C, (("a", "up"), ("a", "down")), 1))

    def test_too_wide(self):
        self.refuses(TooWide, ("scan", "w"), ("join", K, N, (("a", "g"),)))
        for word in ("group", "part"):
            self.refuses(TooWide, (word, C, (), ()))
        self.refuses(TooWide, ("scan", "w"), ("part", N, tuple("ghijklmo"), (COUNT,)))

    def test_a_size_above_twenty(self):
        grown = [("where", C, (TEST,) * 3)] + [("where", N + number, (TEST,) * 3) for number in range(5)]
        self.assertEqual(len(self.senses(*grown)), N + 6)
        last = N + 5
        # The size is 19 here: one more is taken, two are not.
        for act in (("where", last, (TEST,)), ("keep", last, ("a",)), ("named", last, ("f", "g", "h")),
                    ("group", last, ("a",), ()), ("first", last, (), 1), ("part", last, ("a",), ()),
                    ("cut", last, (), 1)):
            self.senses(*grown, act)
            self.refuses(NoQuestion, *grown, ("keep", last, ("a", "b", "x")), act[:1] + (last + 1,) + act[2:])
        self.refuses(NoQuestion, *grown, ("where", last, (TEST, TEST)))
        self.refuses(NoQuestion, *grown, ("join", last, OC, (("a", "d"),)))
        self.refuses(NoQuestion, *grown, ("join", OC, last, (("d", "a"),)))

    def test_merge_and_sending_make_a_question_no_greater(self):
        grown = [("where", C, (TEST,) * 3)] + [("where", N + number, (TEST,) * 3) for number in range(5)]
        acts = [("part", N + 5, ("a",), ()), ("deal", N + 6, "a"), ("copy", N + 7), ("bring", N + 8, 0),
                ("merge", N + 9), ("deal", N + 10, "a")]
        self.assertEqual(len(self.senses(*grown, *acts)), N + 12)

    def test_no_question_ahead_of_all_else_at_its_act(self):
        grown = [("where", C, (TEST,) * 3)] + [("where", N + number, (TEST,) * 3) for number in range(5)]
        grown.append(("cut", N + 5, (), 1))
        self.refuses(NoQuestion, *grown, ("keep", N + 6, ("zz", "zz")))
        self.refuses(NoQuestion, *grown, ("where", N + 6, (("zz", "=", ("value", 1)),)))

    def test_no_house(self):
        for number in (C, K, S, ATS):
            for house in (-1, HOUSES, HOUSES + 1, 6, 10 ** 60, -10 ** 59):
                self.refuses(NoHouse, ("bring", number, house))
        self.refuses(NoHouse, ("part", S, ("b",), ()), ("bring", N, 3))
        for houses in range(1, 7):
            town = Town(houses, {"k": (HEAD, ("keys", "a"), [])})
            for house in range(houses):
                self.assertEqual(senses(town, [("scan", "k"), ("bring", 0, house)])[1][2], ("at", house))
            with self.assertRaises(NoHouse) as taken:
                senses(town, [("scan", "k"), ("bring", 0, houses)])
            self.assertEqual(taken.exception.act, 1)


class UnsoundTest(SensesCase):
    HALVES = (("part", C, ("a",), (("most", "x", "x"),)), ("cut", C, (), 5))

    def test_of_a_half(self):
        for half in self.HALVES:
            for act in (("where", N, (TEST,)), ("keep", N, ("a",)), ("group", N, ("a",), ()), ("part", N, ("a",), ()),
                        ("first", N, (), 1), ("cut", N, (), 1), ("join", N, OC, (("a", "d"),)),
                        ("join", OC, N, (("d", "a"),))):
                self.refuses(Unsound, half, act)
                # Sending makes no whole of it; merging does.
                self.refuses(Unsound, half, ("copy", N), act[:1] + tuple(
                    N + 1 if part == N else part for part in act[1:]))
                merged = act[:1] + tuple(N + 1 if part == N else part for part in act[1:])
                self.senses(half, ("merge", N), merged)
        for half, names in zip(self.HALVES, (("f", "g"), ("f", "g", "h"))):
            self.refuses(Unsound, half, ("named", N, names))
            self.senses(half, ("merge", N), ("named", N + 1, names))

    def test_a_dealt_half_that_is_named(self):
        self.refuses(Unsound, ("cut", K, (), 5), ("named", N, ("f", "g", "h")))
        self.refuses(Unsound, ("part", K, ("a",), ()), ("named", N, ("f",)))

    def test_merge_of_what_is_whole(self):
        for number in range(N):
            self.refuses(Unsound, ("merge", number))
        self.refuses(Unsound, ("group", C, ("a",), ()), ("merge", N))
        self.refuses(Unsound, ("first", C, (), 1), ("merge", N))
        for half in self.HALVES:
            self.refuses(Unsound, half, ("merge", N), ("merge", N + 1))
            self.refuses(Unsound, half, ("merge", N), ("copy", N + 1), ("merge", N + 2))

    def test_group(self):
        for number, names in ((S, ("a",)), (S, ()), (K, ("b",)), (K, ()), (K, ("x", "b")), (DX, ("a", "b"))):
            self.refuses(Unsound, ("group", number, names, (COUNT,)))
        # Neighbours that are sound.
        for number, names in ((K, ("a",)), (K, ("b", "a")), (DX, ("x",)), (C, ("b",)), (C, ()), (ATS, ("b",))):
            self.senses(("group", number, names, (COUNT,)))
        # A sum of the name by which it is dealt is not one of the names.
        self.refuses(Unsound, ("group", K, ("b",), (("sum", "a", "a"),)))

    def test_merge_of_half_a_group(self):
        for number, names in ((S, ("a",)), (S, ()), (K, ("b",)), (K, ()), (DX, ("a", "b"))):
            self.refuses(Unsound, ("part", number, names, (COUNT,)), ("merge", N))
        half = ("part", S, ("a", "b"), (COUNT,))
        self.refuses(Unsound, half, ("deal", N, "n"), ("merge", N + 1))
        for send in (("deal", N, "a"), ("deal", N, "b"), ("copy", N), ("bring", N, 1)):
            self.senses(half, send, ("merge", N + 1))
        self.senses(("part", K, ("b", "a"), (COUNT,)), ("merge", N))

    def test_first(self):
        for number in (K, S, DX):
            self.refuses(Unsound, ("first", number, (("a", "up"),), 3))
            self.refuses(Unsound, ("first", number, (), 0))
        for number in (C, ATS):
            self.senses(("first", number, (("a", "up"),), 3))

    def test_merge_of_half_a_first(self):
        for number in (K, S, DX):
            self.refuses(Unsound, ("cut", number, (("a", "up"),), 3), ("merge", N))
            self.refuses(Unsound, ("cut", number, (("a", "up"),), 3), ("deal", N, "a"), ("merge", N + 1))
            self.senses(("cut", number, (("a", "up"),), 3), ("copy", N), ("merge", N + 1))
            self.senses(("cut", number, (("a", "up"),), 3), ("bring", N, 0), ("merge", N + 1))


class OrderTest(SensesCase):
    def test_what_7_tells_ahead_of_unsound(self):
        half = ("part", C, ("a", "b"), (("most", "x", "x"),))
        self.refuses(NoColumn, half, ("keep", N, ("zz",)))
        self.refuses(NoColumn, half, ("where", N, (("zz", "=", ("value", 1)),)))
        self.refuses(NoColumn, half, ("named", N, ("f", "g")))
        self.refuses(NoKind, half, ("where", N, (("b", "=", ("value", 1)),)))
        self.refuses(Twice, half, ("keep", N, ("a", "a")))
        self.refuses(TooWide, half, ("group", N, (), ()))
        self.refuses(NoColumn, ("join", S, OS, (("a", "zz"),)))
        self.refuses(NoKind, ("join", S, OS, (("a", "e"),)))
        self.refuses(Twice, ("join", S, S, (("a", "a"),)))
        self.refuses(NoColumn, ("group", S, ("zz",), ()))
        self.refuses(NoKind, ("group", S, (), (("sum", "b", "n"),)))
        self.refuses(TooWide, ("group", S, (), ()))
        self.refuses(NoColumn, ("first", S, (("zz", "up"),), 1))
        self.refuses(Twice, ("first", S, (("a", "up"), ("a", "up")), 1))

    def test_within_7(self):
        self.refuses(NoColumn, ("where", C, (("a", "=", ("value", "p")), ("zz", "=", ("value", 1)))))
        self.refuses(NoKind, ("group", C, ("a", "a"), (("sum", "b", "n"),)))
        self.refuses(NoKind, ("join", C, C, (("a", "b"),)))

    def test_no_question_ahead_of_unsound(self):
        grown = [("where", S, (TEST,) * 3)] + [("where", N + number, (TEST,) * 3) for number in range(5)]
        self.refuses(NoQuestion, *grown, ("keep", N + 5, ("a",)), ("first", N + 6, (), 1))
        self.refuses(Unsound, *grown, ("first", N + 5, (), 1))

    def test_the_first_faulty_act_of_two(self):
        faults = ((("scan", "none"), NoTable), (("keep", C, ("zz",)), NoColumn), (("keep", C, ("a", "a")), Twice),
                  (("bring", C, 9), NoHouse), (("merge", C), Unsound), (("group", C, (), ()), TooWide),
                  (("where", C, (("b", "=", ("value", 1)),)), NoKind))
        for (act, error), (other, _) in itertools.permutations(faults, 2):
            self.refuses_at(error, N, act, other)
            self.refuses_at(error, N + 1, ("scan", "c"), act, ("copy", N), other)

    def test_the_value_act(self):
        for many in (0, 1, 30, 59):
            with self.assertRaises(NoTable) as taken:
                senses(TOWN, [("scan", "c")] * many + [("scan", "none")] * (60 - many))
            self.assertEqual(taken.exception.act, many)
            self.assertIsInstance(taken.exception, ValueError)


if __name__ == "__main__":
    unittest.main()
