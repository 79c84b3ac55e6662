"""The parts of a plan, what is sent, and its answer."""

import unittest

from shardask.errors import (
    NoColumn, NoHouse, NoKind, NoPlan, NoQuestion, NoTable, ShardError, TooWide, Twice, Unsound)
from shardask.parts import parts, sent, told
from shardask.plans import senses
from shardask.towns import Town
from shardask.values import home
from shardask.wholes import rows_of, whole
from tests.things import STRANGE, STRANGE_TUPLES, UnchangedCase

HEAD = (("a", "number"), ("b", "word"), ("x", "number"))
OTHER = (("d", "number"), ("e", "word"))
P0, P1, Q2, Q3, R4 = (0, "p", 5), (1, "p", 5), (2, "q", 1), (3, "q", 9), (4, "r", 2)
ROWS = [R4, P1, Q3, P0, Q2, P1]
RISING = [P0, P1, P1, Q2, Q3, R4]
OTHERS = [(4, "u"), (1, "v"), (1, "w"), (9, "v")]


def town_of(houses=3, rows=ROWS, others=OTHERS):
    cuts = ((None, 2 % houses), (2, 0))
    return Town(houses, {
        "c": (HEAD, ("copies",), list(rows)), "k": (HEAD, ("keys", "a"), list(rows)),
        "w": (HEAD, ("keys", "b"), list(rows)), "s": (HEAD, ("spans", "a", cuts), list(rows)),
        "oc": (OTHER, ("copies",), list(others)), "ok": (OTHER, ("keys", "d"), list(others)),
        "os": (OTHER, ("spans", "e", ((None, 0), ("v", houses - 1))), list(others)),
    })


TOWN = town_of()
# Of each spread: copied, dealt a, loose, at house 1.
C, K, S, AT = range(4)
AHEAD = [("scan", "c"), ("scan", "k"), ("scan", "s"), ("bring", 2, 1)]
N = len(AHEAD)
HERE = {
    C: [RISING, RISING, RISING], K: [[P0, Q3], [P1, P1, R4], [Q2]], S: [[Q2, Q3, R4], [], [P0, P1, P1]],
    AT: [[], RISING, []],
}
COUNT = ("count", None, "n")


class PartsCase(UnchangedCase):
    def parts(self, *acts, town=TOWN):
        made = self.unchanged(lambda plan: parts(town, plan), AHEAD + list(acts))
        self.assertEqual(len(made), N + len(acts))
        for act in made:
            self.assertEqual(len(act), town.houses())
            for rows in act:
                self.assertEqual(rows, sorted(rows))
        return made

    def leaves(self, rows, *acts):
        self.assertEqual(self.parts(*acts)[-1], rows, acts)

    def sends(self, bundles, *acts):
        """What the last of these acts sends."""
        told = self.unchanged(lambda plan: sent(TOWN, plan), AHEAD + list(acts))
        self.assertEqual([bundle[1:] for bundle in told if bundle[0] == N + len(acts) - 1], bundles, acts)

    def tells(self, rows, *acts):
        self.assertEqual(self.unchanged(lambda plan: told(TOWN, plan), AHEAD + list(acts)), rows, acts)


class ScanTest(PartsCase):
    def test_what_stands_there(self):
        self.assertEqual(self.parts(), [HERE[number] for number in range(N)])

    def test_towns_of_one_to_six_houses(self):
        for houses in range(1, 7):
            town = town_of(houses)
            made = parts(town, [("scan", name) for name in town.heads()])
            for name, act in zip(town.heads(), made):
                self.assertEqual(act, [town.part(name, house) for house in range(houses)])

    def test_no_rows(self):
        town = town_of(4, [], [])
        for name in town.heads():
            self.assertEqual(parts(town, [("scan", name)]), [[[], [], [], []]])


class OwnRowsTest(PartsCase):
    def test_where(self):
        test = ("x", ">", ("value", 4))
        self.leaves([[P0, P1, P1, Q3]] * 3, ("where", C, (test,)))
        self.leaves([[P0, Q3], [P1, P1], []], ("where", K, (test,)))
        self.leaves([[Q3], [], [P0, P1, P1]], ("where", S, (test,)))
        self.leaves([[], [P0, P1, P1, Q3], []], ("where", AT, (test,)))
        self.leaves([[Q3], [], []], ("where", K, (test, ("a", "!", ("value", 0)), ("b", "=", ("value", "q")))))
        self.leaves([[], [R4], [Q2]], ("where", K, (("a", ">", ("column", "x")),)))

    def test_keep(self):
        self.leaves([[("p",), ("p",), ("p",), ("q",), ("q",), ("r",)]] * 3, ("keep", C, ("b",)))
        # Rising by what is kept, in its own order.
        self.leaves([[(5, 0), (9, 3)], [(2, 4), (5, 1), (5, 1)], [(1, 2)]], ("keep", K, ("x", "a")))
        self.leaves([[(1,), (2,), (9,)], [], [(5,), (5,), (5,)]], ("keep", S, ("x",)))
        self.leaves([[], [(1,), (2,), (5,), (5,), (5,), (9,)], []], ("keep", AT, ("x",)))

    def test_named(self):
        for number in range(N):
            self.leaves(HERE[number], ("named", number, ("f", "g", "h")))

    def test_group(self):
        sums = (COUNT, ("sum", "x", "m"), ("least", "a", "l"), ("most", "b", "t"))
        rows = [("p", 3, 15, 0, "p"), ("q", 2, 10, 2, "q"), ("r", 1, 2, 4, "r")]
        self.leaves([rows] * 3, ("group", C, ("b",), sums))
        self.leaves([[], rows, []], ("group", AT, ("b",), sums))
        self.leaves([[(0, 1), (3, 1)], [(1, 2), (4, 1)], [(2, 1)]], ("group", K, ("a",), (COUNT,)))
        self.leaves([[("p", 0, 1), ("q", 3, 1)], [("p", 1, 2), ("r", 4, 1)], [("q", 2, 1)]],
                    ("group", K, ("b", "a"), (COUNT,)))
        self.leaves([[(6,)]] * 3, ("group", C, (), (COUNT,)))
        self.leaves([[], [(6,)], []], ("group", AT, (), (COUNT,)))

    def test_part(self):
        rows = [("p", 3, 15), ("q", 2, 10), ("r", 1, 2)]
        sums = (COUNT, ("sum", "x", "m"))
        self.leaves([rows] * 3, ("part", C, ("b",), sums))
        self.leaves([[("p", 1, 5), ("q", 1, 9)], [("p", 2, 10), ("r", 1, 2)], [("q", 1, 1)]], ("part", K, ("b",), sums))
        self.leaves([[("q", 2, 10), ("r", 1, 2)], [], [("p", 3, 15)]], ("part", S, ("b",), sums))
        self.leaves([[], rows, []], ("part", AT, ("b",), sums))
        self.leaves([[(2,)], [(3,)], [(1,)]], ("part", K, (), (COUNT,)))
        # A house without rows has no row without names either.
        self.leaves([[(3,)], [], [(3,)]], ("part", S, (), (COUNT,)))

    def test_first(self):
        keys = (("x", "down"), ("a", "up"))
        self.leaves([[P0, P1, Q3]] * 3, ("first", C, keys, 3))
        self.leaves([[], [P0, P1, Q3], []], ("first", AT, keys, 3))
        self.leaves([[], [], []], ("first", AT, keys, 0))
        self.leaves([RISING] * 3, ("first", C, keys, 60))
        self.leaves([[], [P0, P1], []], ("first", AT, (), 2))

    def test_cut(self):
        keys = (("x", "down"),)
        self.leaves([[P0, Q3]] * 3, ("cut", C, keys, 2))
        self.leaves([[P0, Q3], [P1, P1], [Q2]], ("cut", K, keys, 2))
        self.leaves([[Q3], [], [P0]], ("cut", S, keys, 1))
        self.leaves([[], [P0, Q3], []], ("cut", AT, keys, 2))
        self.leaves([[], [], []], ("cut", K, keys, 0))
        self.leaves(HERE[S], ("cut", S, keys, 60))
        self.leaves([[P0], [P1], [Q2]], ("cut", K, (), 1))

    def test_join(self):
        pairs = (("a", "d"),)
        joined = [P1 + ("v",)] * 2 + [P1 + ("w",)] * 2 + [R4 + ("u",)]
        there = [("scan", "oc"), ("scan", "ok"), ("scan", "os"), ("bring", N + 2, 1)]
        oc, ok, os, oat = range(N, N + 4)
        self.leaves([joined] * 3, *there, ("join", C, oc, pairs))
        self.leaves([[], joined, []], *there, ("join", K, oc, pairs))
        self.leaves([joined[4:], [], joined[:4]], *there, ("join", S, oc, pairs))
        self.leaves([[], joined, []], *there, ("join", AT, oc, pairs))
        self.leaves([[], joined, []], *there, ("join", C, ok, pairs))
        self.leaves([[], joined, []], *there, ("join", K, ok, pairs))
        # The rows with u stand in house 0, the others in the last one.
        self.leaves([joined[4:], [], joined[:4]], *there, ("join", C, os, pairs))
        self.leaves([[], joined, []], *there, ("join", C, oat, pairs))
        self.leaves([[], joined, []], *there, ("join", AT, oat, pairs))

    def test_join_of_an_act_with_itself(self):
        pairs = (("a", "a"), ("b", "b"), ("x", "x"))
        self.leaves([[P0, Q3], [P1, P1, P1, P1, R4], [Q2]], ("join", K, K, pairs))


class MergeTest(PartsCase):
    SUMS = (COUNT, ("sum", "x", "m"), ("least", "x", "l"), ("most", "x", "t"))
    WORDS = (("least", "b", "l"), ("most", "b", "t"))

    def test_of_part_with_names(self):
        rows = {"p": ("p", 3, 15, 5, 5), "q": ("q", 2, 10, 1, 9), "r": ("r", 1, 2, 2, 2)}
        by_home = [[rows[name] for name in "pqr" if home(name, 3) == house] for house in range(3)]
        self.assertEqual(by_home, [[rows["r"]], [rows["p"]], [rows["q"]]])
        for number in range(N):
            half = ("part", number, ("b",), self.SUMS)
            self.leaves(by_home, half, ("deal", N, "b"), ("merge", N + 1))
            self.leaves([list(rows.values())] * 3, half, ("copy", N), ("merge", N + 1))
            self.leaves([[], [], list(rows.values())], half, ("bring", N, 2), ("merge", N + 1))

    def test_of_part_without_names(self):
        for number in range(N):
            half = ("part", number, (), self.SUMS)
            self.leaves([[(6, 27, 1, 9)], [], []], half, ("bring", N, 0), ("merge", N + 1))
            self.leaves([[(6, 27, 1, 9)]] * 3, half, ("copy", N), ("merge", N + 1))

    def test_of_words(self):
        for number in range(N):
            self.leaves([[("p", "r")], [], []], ("part", number, (), self.WORDS), ("bring", N, 0), ("merge", N + 1))
            half = ("part", number, ("x",), self.WORDS)
            self.leaves([[], [(1, "q", "q"), (2, "r", "r"), (5, "p", "p"), (9, "q", "q")], []], half, ("bring", N, 1),
                        ("merge", N + 1))

    def test_where_it_stands(self):
        # Copied, at a house, and dealt by a name: nothing must be sent ahead.
        self.leaves([[(6,)]] * 3, ("part", C, (), (COUNT,)), ("merge", N))
        self.leaves([[], [(6,)], []], ("part", AT, (), (COUNT,)), ("merge", N))
        self.leaves([[(0, 1), (3, 1)], [(1, 2), (4, 1)], [(2, 1)]], ("part", K, ("a",), (COUNT,)), ("merge", N))

    def test_counts_are_summed_not_counted(self):
        # Each house has one half row of the lot; a copied one has all three.
        half = ("part", K, (), (COUNT, ("sum", "a", "m")))
        self.leaves([[(6, 11)]] * 3, half, ("copy", N), ("merge", N + 1))

    def test_no_rows(self):
        town = town_of(3, [], [])
        for names in ((), ("b",)):
            made = self.parts(("part", S, names, (COUNT,)), ("copy", N), ("merge", N + 1), town=town)
            self.assertEqual(made[-1], [[], [], []])

    def test_no_sums(self):
        self.leaves([[], [("p",), ("q",), ("r",)], []], ("part", K, ("b",), ()), ("bring", N, 1), ("merge", N + 1))

    def test_below_nought(self):
        town = Town(2, {name: (HEAD, ("keys", "a"), [(0, "p", -5), (1, "p", 3), (1, "p", -7)]) for name in "cks"})
        sums = (("sum", "x", "m"), ("least", "x", "l"), ("most", "x", "t"))
        made = parts(town, [("scan", "k"), ("part", 0, ("b",), sums), ("bring", 1, 1), ("merge", 2)])
        self.assertEqual(made[-1], [[], [("p", -9, -7, 3)]])

    def test_of_cut(self):
        for number in range(N):
            for keys, many, rows in (
                    ((), 2, [P0, P1]), ((("x", "down"),), 2, [P0, Q3]), ((("x", "up"),), 2, [Q2, R4]),
                    ((("b", "down"), ("x", "down")), 2, [Q3, R4]), ((("x", "down"), ("a", "down")), 3, [P1, P1, Q3]),
                    ((("x", "up"), ("a", "up")), 4, [P0, P1, Q2, R4]), ((), 0, []), ((("a", "down"),), 60, RISING)):
                cut = ("cut", number, keys, many)
                self.leaves([[], [], rows], cut, ("bring", N, 2), ("merge", N + 1))
                self.leaves([rows] * 3, cut, ("copy", N), ("merge", N + 1))
        self.leaves([[P0, P1]] * 3, ("cut", C, (), 2), ("merge", N))
        self.leaves([[], [P0, P1], []], ("cut", AT, (), 2), ("merge", N))


class SendingTest(PartsCase):
    BY_X = [[Q3], [Q2], [P0, P1, P1, R4]]
    BY_A = HERE[K]

    def test_deal(self):
        for number in range(N):
            self.leaves(self.BY_X, ("deal", number, "x"))
            self.leaves(self.BY_A, ("deal", number, "a"))
        self.sends([(0, 2, 1), (1, 2, 3), (2, 1, 1)], ("deal", K, "x"))
        self.sends([(0, 1, 1), (0, 2, 1), (2, 0, 1), (2, 1, 2)], ("deal", S, "a"))
        self.sends([(1, 0, 1), (1, 2, 4)], ("deal", AT, "x"))

    def test_deal_of_what_is_dealt_so(self):
        self.leaves(self.BY_A, ("deal", K, "a"))
        self.sends([], ("deal", K, "a"))

    def test_deal_by_words(self):
        by_b = [[R4], [P0, P1, P1], [Q2, Q3]]
        for number in range(N):
            self.leaves(by_b, ("deal", number, "b"))

    def test_copy(self):
        for number in range(N):
            self.leaves([RISING] * 3, ("copy", number))
        self.sends([(0, 1, 2), (0, 2, 2), (1, 0, 3), (1, 2, 3), (2, 0, 1), (2, 1, 1)], ("copy", K))
        # House 1 has no row: none go from it.
        self.sends([(0, 1, 3), (0, 2, 3), (2, 0, 3), (2, 1, 3)], ("copy", S))
        self.sends([(1, 0, 6), (1, 2, 6)], ("copy", AT))

    def test_bring(self):
        for number in range(N):
            for house in range(3):
                self.leaves([RISING if here == house else [] for here in range(3)], ("bring", number, house))
        self.sends([(1, 0, 3), (2, 0, 1)], ("bring", K, 0))
        self.sends([(0, 1, 2), (2, 1, 1)], ("bring", K, 1))
        self.sends([(0, 1, 3), (2, 1, 3)], ("bring", S, 1))
        self.sends([(0, 2, 3)], ("bring", S, 2))
        self.sends([], ("bring", AT, 1))
        self.sends([(1, 2, 6)], ("bring", AT, 2))

    def test_of_what_is_copied_nothing_is_sent(self):
        for send in (("deal", C, "x"), ("deal", C, "a"), ("copy", C), ("bring", C, 0), ("bring", C, 2)):
            self.sends([], send)
        # Nor of what was made a copy, or of what goes by copies.
        for send in (("deal", N, "x"), ("copy", N), ("bring", N, 0)):
            self.sends([], ("copy", K), send)
            self.sends([], ("where", C, (("x", ">", ("value", 1)),)), send)

    def test_of_halves(self):
        half = ("part", K, ("b",), (COUNT,))
        rows = [[("p", 1), ("q", 1)], [("p", 2), ("r", 1)], [("q", 1)]]
        self.leaves(rows, half)
        self.leaves([[("r", 1)], [("p", 1), ("p", 2)], [("q", 1), ("q", 1)]], half, ("deal", N, "b"))
        self.sends([(0, 1, 1), (0, 2, 1), (1, 0, 1)], half, ("deal", N, "b"))
        self.leaves([[], [("p", 1), ("q", 1), ("q", 1), ("r", 1)], [("p", 2)]], half, ("deal", N, "n"))
        self.leaves([[("p", 1), ("p", 2), ("q", 1), ("q", 1), ("r", 1)]] * 3, half, ("copy", N))
        self.sends([(0, 1, 2), (0, 2, 2), (1, 0, 2), (1, 2, 2), (2, 0, 1), (2, 1, 1)], half, ("copy", N))
        self.leaves([[], [], [("p", 1), ("p", 2), ("q", 1), ("q", 1), ("r", 1)]], half, ("bring", N, 2))
        cut = ("cut", S, (("x", "down"),), 2)
        self.leaves([[Q3, R4], [], [P0, P1]], cut)
        self.leaves([[P0, P1, Q3, R4], [], []], cut, ("bring", N, 0))
        self.sends([(2, 0, 2)], cut, ("bring", N, 0))
        self.leaves([[P0, Q3], [P1, R4], []], cut, ("deal", N, "a"))

    def test_of_copied_halves(self):
        half = ("part", C, ("b",), (COUNT,))
        rows = [("p", 3), ("q", 2), ("r", 1)]
        for send, left in ((("deal", N, "b"), [[("r", 1)], [("p", 3)], [("q", 2)]]), (("copy", N), [rows] * 3),
                           (("bring", N, 1), [[], rows, []])):
            self.leaves(left, half, send)
            self.sends([], half, send)

    def test_of_what_was_sent(self):
        self.leaves([[], [], RISING], ("copy", S), ("deal", N, "b"), ("bring", N + 1, 2))
        self.sends([(0, 2, 1), (1, 2, 3)], ("copy", S), ("deal", N, "b"), ("bring", N + 1, 2))

    def test_one_house(self):
        town = town_of(1)
        for send in (("deal", S, "x"), ("copy", S), ("bring", S, 0)):
            made = parts(town, [("scan", name) for name in ("c", "k", "s")] + [send])
            self.assertEqual(made, [[RISING]] * 4)
            self.assertEqual(sent(town, [("scan", name) for name in ("c", "k", "s")] + [send]), [])

    def test_rising_over_several_acts(self):
        plan = [("scan", "k"), ("bring", 0, 0), ("scan", "s"), ("copy", 2), ("deal", 0, "x"), ("scan", "c"),
                ("copy", 5), ("where", 0, (("a", "<", ("value", 0)),)), ("copy", 7)]
        self.assertEqual(sent(TOWN, plan), [
            (1, 1, 0, 3), (1, 2, 0, 1),
            (3, 0, 1, 3), (3, 0, 2, 3), (3, 2, 0, 3), (3, 2, 1, 3),
            (4, 0, 2, 1), (4, 1, 2, 3), (4, 2, 1, 1)])

    def test_nothing_sent(self):
        self.assertEqual(sent(TOWN, [("scan", "k"), ("where", 0, (("a", "=", ("value", 1)),))]), [])


class ToldTest(PartsCase):
    def test_of_each_spread(self):
        for number in range(N):
            self.tells(RISING, ("named", number, ("a", "b", "x")))
            self.tells([P0, P1, P1], ("where", number, (("b", "=", ("value", "p")),)))
            for send in (("copy", number), ("deal", number, "b"), ("bring", number, 2)):
                self.tells(RISING, send)

    def test_rows_of_several_houses_rise_together(self):
        self.tells([(1,), (2,), (5,), (5,), (5,), (9,)], ("keep", K, ("x",)))

    def test_first_in_its_order(self):
        keys = (("x", "down"), ("a", "down"))
        first = [Q3, P1, P1, P0, R4]
        for number in (C, AT):
            self.tells(first, ("first", number, keys, 5))
        for number in range(N):
            cut = ("cut", number, keys, 5)
            self.tells(first, cut, ("bring", N, 2), ("merge", N + 1))
            self.tells(first, cut, ("copy", N), ("merge", N + 1))
            # What is sent on stays a first.
            for send in (("copy", N + 2), ("deal", N + 2, "b"), ("bring", N + 2, 0)):
                self.tells(first, cut, ("bring", N, 2), ("merge", N + 1), send)

    def test_over_a_first_rising(self):
        cut = [("cut", K, (("x", "down"), ("a", "down")), 4), ("bring", N, 2), ("merge", N + 1)]
        self.tells([Q3, P1, P1, P0], *cut)
        self.tells([P0, P1, P1, Q3], *cut, ("named", N + 2, ("f", "g", "h")))
        self.tells([P0, P1, P1], *cut, ("where", N + 2, (("x", "<", ("value", 9)),)))
        self.tells([(0,), (1,), (1,), (3,)], *cut, ("keep", N + 2, ("a",)))

    def test_first_of_a_first(self):
        self.tells([P0, P1], ("first", C, (("x", "up"),), 4), ("first", N, (("x", "down"),), 2))

    def test_none(self):
        self.tells([], ("first", C, (), 0))
        self.tells([], ("where", K, (("a", "<", ("value", 0)),)))

    def test_acts_that_nobody_goes_by_may_be_half(self):
        self.tells(RISING, ("cut", K, (), 1), ("copy", S))


FAULTS = [
    (("scan", "none"), NoTable), (("keep", 0, ("zz",)), NoColumn), (("deal", 0, "zz"), NoColumn),
    (("where", 0, (("b", "=", ("value", 1)),)), NoKind), (("keep", 0, ("a", "a")), Twice),
    (("group", 0, (), ()), TooWide), (("bring", 0, 3), NoHouse), (("bring", 0, -1), NoHouse),
    (("merge", 0), Unsound), (("first", 1, (), 1), Unsound), (("group", 2, ("a",), ()), Unsound),
]


class RefusedTest(PartsCase):
    def refuses(self, call, plan, error, act):
        with self.assertRaises(ShardError) as taken:
            call(TOWN, plan)
        self.assertIs(taken.exception.__class__, error, plan)
        self.assertEqual(taken.exception.act, act, plan)

    def test_as_senses(self):
        for call in (senses, parts, sent, told):
            for act, error in FAULTS:
                self.refuses(call, AHEAD + [act], error, N)
                self.refuses(call, AHEAD + [act, ("copy", 0)], error, N)
                self.refuses(call, AHEAD + [("cut", 0, (), 1), act], error, N + 1)
                # What comes first is told, though the last act is half too.
                self.refuses(call, AHEAD + [act, ("cut", 0, (), 1)], error, N)

    def test_a_size_above_twenty(self):
        plan = [("scan", "c")] + [("first", number, (), 60) for number in range(20)]
        for call in (parts, sent, told):
            self.refuses(call, plan, NoQuestion, 20)
            call(TOWN, plan[:20])

    def test_what_is_no_plan(self):
        for call in (parts, sent, told):
            for thing in STRANGE + STRANGE_TUPLES + ["scan", 7, tuple(AHEAD)]:
                self.refuses(call, thing, NoPlan, None)
                self.refuses(call, AHEAD + [thing], NoPlan, None)
            self.refuses(call, [], NoPlan, None)
            self.refuses(call, [("scan", "c")] * 61, NoPlan, None)
            self.refuses(call, [("copy", 0)], NoPlan, None)

    def test_a_last_act_that_is_half(self):
        for acts in ([("part", K, ("b",), (COUNT,))], [("cut", S, (), 2)], [("part", C, (), (COUNT,))],
                     [("part", S, ("b",), ()), ("deal", N, "b")], [("cut", S, (), 2), ("bring", N, 0)],
                     [("cut", S, (), 2), ("copy", N)]):
            plan = AHEAD + acts
            self.assertEqual(len(parts(TOWN, plan)), len(plan))
            self.assertIsInstance(sent(TOWN, plan), list)
            self.refuses(told, plan, Unsound, len(plan) - 1)


class OwnListsTest(PartsCase):
    PLAN = [("scan", "k"), ("named", 0, ("f", "g", "h")), ("copy", 1), ("deal", 2, "f"), ("bring", 2, 1), ("copy", 2)]

    def test_parts(self):
        before = [[list(rows) for rows in act] for act in parts(TOWN, self.PLAN)]
        told_parts = parts(TOWN, self.PLAN)
        lists = [told_parts] + told_parts + [rows for act in told_parts for rows in act]
        self.assertEqual(len({id(one) for one in lists}), len(lists))
        for one in reversed(lists):
            one.clear()
        self.assertEqual(parts(TOWN, self.PLAN), before)

    def test_sent_and_told(self):
        for call in (sent, told):
            before = list(call(TOWN, self.PLAN))
            self.assertTrue(before)
            call(TOWN, self.PLAN).clear()
            self.assertEqual(call(TOWN, self.PLAN), before)

    def test_the_town_is_as_it_was(self):
        town = town_of()
        for call in (parts, sent, told):
            call(town, self.PLAN)
        self.assertEqual(town.tables(), TOWN.tables())
        self.assertEqual(whole(town.heads(), town.tables(), ("table", "k")), RISING)
        self.assertEqual(rows_of(town.heads(), town.tables(), ("table", "s")), RISING)


if __name__ == "__main__":
    unittest.main()
