"""Stores: rows put and dropped, spans split, lent, carried and settled."""

import itertools
import unittest

from shardask.errors import BadTown, Busy, NoHouse, NoMove, NoRow, NoSpan, NoTable, NotYet, ShardError
from shardask.stores import Store
from shardask.towns import Town
from tests.things import STRANGE, STRANGE_TUPLES, Sulky

HEAD = (("a", "number"), ("b", "word"))
WORDS = (("w", "word"), ("n", "number"))
CUTS = ((None, 0), (10, 1), (20, 2))
HOUSES = 3


def store_of(rows=(), houses=HOUSES, cuts=CUTS):
    return Store(houses, {
        "s": (HEAD, ("spans", "a", cuts), list(rows)), "k": (HEAD, ("keys", "a"), list(rows)),
        "c": (HEAD, ("copies",), list(rows)),
        "w": (WORDS, ("spans", "w", ((None, 2), ("m", 0))), [(word, a) for a, word in rows]),
    })


def standing(store, name="s", houses=HOUSES):
    return [store.stands(name, house) for house in range(houses)]


def p(number):
    return (number, "p")


class StoreCase(unittest.TestCase):
    def refuses(self, error, call, *given):
        with self.assertRaises(ShardError) as taken:
            call(*given)
        self.assertIs(taken.exception.__class__, error, given)
        self.assertIsNone(taken.exception.act)

    def state(self, store, houses=HOUSES):
        names = sorted(store.town().heads())
        stand = [standing(store, name, houses) for name in names]
        town = store.town()
        placings = [town.placing(name) for name in names]
        return stand, [store.moving(name) for name in names], placings, town.tables()


class PutAndDropTest(StoreCase):
    def test_by_copies(self):
        store = store_of([p(1)])
        self.assertIsNone(store.put("c", p(0)))
        self.assertEqual(standing(store, "c"), [[p(0), p(1)]] * 3)
        self.assertIsNone(store.drop("c", p(1)))
        self.assertEqual(standing(store, "c"), [[p(0)]] * 3)

    def test_by_keys(self):
        store = store_of([p(1)])
        store.put("k", p(4))
        store.put("k", p(2))
        self.assertEqual(standing(store, "k"), [[], [p(1), p(4)], [p(2)]])
        store.drop("k", p(1))
        self.assertEqual(standing(store, "k"), [[], [p(4)], [p(2)]])

    def test_by_spans(self):
        store = store_of([p(1)])
        for number in (9, 10, 19, 20, 25, -5):
            store.put("s", p(number))
        self.assertEqual(standing(store), [[p(-5), p(1), p(9)], [p(10), p(19)], [p(20), p(25)]])
        store.drop("s", p(10))
        store.drop("s", p(25))
        self.assertEqual(standing(store), [[p(-5), p(1), p(9)], [p(19)], [p(20)]])

    def test_alike_ones(self):
        for name in ("s", "k", "c"):
            store = store_of([p(1), p(1)])
            store.put(name, p(1))
            store.put(name, (1, "q"))
            store.drop(name, p(1))
            self.assertEqual(store.town().whole(name), [p(1), p(1), (1, "q")])
            store.drop(name, p(1))
            store.drop(name, p(1))
            self.assertEqual(store.town().whole(name), [(1, "q")])
            self.refuses(NoRow, store.drop, name, p(1))

    def test_tables_are_apart(self):
        store = store_of([p(1)])
        store.put("s", p(2))
        self.assertEqual(store.town().whole("k"), [p(1)])
        self.assertEqual(store.town().whole("s"), [p(1), p(2)])

    def test_stands_rising(self):
        store = store_of([p(3), (3, "a"), p(1)])
        store.put("s", (2, "z"))
        self.assertEqual(store.stands("s", 0), [p(1), (2, "z"), (3, "a"), p(3)])


class SplitTest(StoreCase):
    def cuts(self, store, name="s"):
        return store.town().placing(name)[2]

    def test_numbers(self):
        for low, cuts in (
                (5, ((None, 0), (5, 0), (10, 1), (20, 2))), (-99, ((None, 0), (-99, 0), (10, 1), (20, 2))),
                (11, ((None, 0), (10, 1), (11, 1), (20, 2))), (19, ((None, 0), (10, 1), (19, 1), (20, 2))),
                (21, ((None, 0), (10, 1), (20, 2), (21, 2))), (9, ((None, 0), (9, 0), (10, 1), (20, 2))),
                (0, ((None, 0), (0, 0), (10, 1), (20, 2)))):
            store = store_of([p(1), p(10), p(11), p(30)])
            before = standing(store)
            self.assertIsNone(store.split("s", low))
            self.assertEqual(self.cuts(store), cuts)
            self.assertEqual(standing(store), before)

    def test_words(self):
        for low, cuts in (("", ((None, 2), ("", 2), ("m", 0))), ("z", ((None, 2), ("m", 0), ("z", 0))),
                          ("lz", ((None, 2), ("lz", 2), ("m", 0))), ("ma", ((None, 2), ("m", 0), ("ma", 0)))):
            store = store_of([p(1), (2, "a")])
            before = standing(store, "w")
            store.split("w", low)
            self.assertEqual(self.cuts(store, "w"), cuts)
            self.assertEqual(standing(store, "w"), before)

    def test_up_to_eight_cuts(self):
        store = store_of()
        for low in (1, 30, 15, 12, 40):
            store.split("s", low)
        self.assertEqual([low for low, _ in self.cuts(store)], [None, 1, 10, 12, 15, 20, 30, 40])
        self.assertEqual([house for _, house in self.cuts(store)], [0, 0, 1, 1, 1, 2, 2, 2])
        before = self.state(store)
        for low in (2, 41, -1):
            self.refuses(NoSpan, store.split, "s", low)
        self.assertEqual(self.state(store), before)

    def test_a_split_span_moves_alone(self):
        store = store_of([p(1), p(5), p(9)])
        store.split("s", 5)
        store.lend("s", 1, 2)
        self.assertEqual(store.carry("s", 9), 2)
        store.settle("s")
        self.assertEqual(standing(store), [[p(1)], [], [p(5), p(9)]])


class MoveTest(StoreCase):
    ROWS = [p(1), p(3), p(3), p(5), p(12), p(13), p(25)]

    def test_lent_and_nothing_carried(self):
        store = store_of(self.ROWS)
        before = standing(store)
        self.assertIsNone(store.moving("s"))
        self.assertIsNone(store.lend("s", 0, 2))
        self.assertEqual(store.moving("s"), (0, 2, None))
        self.assertEqual(standing(store), before)
        # Ahead of the first carry nothing is at the other house, whatever is put.
        store.put("s", p(-100))
        self.assertEqual(standing(store), [[p(-100)] + before[0], before[1], before[2]])

    def test_carried_bit_by_bit(self):
        store = store_of(self.ROWS)
        store.lend("s", 0, 2)
        span = [p(1), p(3), p(3), p(5)]
        for many, told, mark, there in (
                (0, 0, None, 0), (-1, 0, None, 0), (1, 1, p(1), 1), (0, 0, p(1), 1), (1, 2, p(3), 3),
                (1, 1, p(5), 4), (1, 0, p(5), 4), (7, 0, p(5), 4), (-1, 0, p(5), 4)):
            self.assertEqual(store.carry("s", many), told)
            self.assertEqual(store.moving("s"), (0, 2, mark))
            self.assertEqual(standing(store), [span, [p(12), p(13)], span[:there] + [p(25)]])

    def test_carried_at_once(self):
        for many, told, mark in ((2, 3, p(3)), (3, 4, p(5)), (4, 4, p(5)), (999, 4, p(5))):
            store = store_of(self.ROWS)
            store.lend("s", 0, 1)
            self.assertEqual(store.carry("s", many), told)
            self.assertEqual(store.moving("s"), (0, 1, mark))
            self.assertEqual(store.stands("s", 1), [p(1), p(3), p(3), p(5)][:told] + [p(12), p(13)])

    def test_each_span(self):
        for number, here, other, rows in ((0, 0, 1, self.ROWS[:4]), (1, 1, 0, self.ROWS[4:6]),
                                          (2, 2, 1, self.ROWS[6:])):
            store = store_of(self.ROWS)
            there = store.stands("s", other)
            store.lend("s", number, other)
            self.assertEqual(store.carry("s", 60), len(rows))
            self.assertEqual(store.stands("s", here), rows)
            self.assertIsNone(store.settle("s"))
            self.assertIsNone(store.moving("s"))
            self.assertEqual(store.stands("s", here), [])
            self.assertEqual(store.stands("s", other), sorted(there + rows))
            cuts = list(CUTS)
            cuts[number] = (cuts[number][0], other)
            self.assertEqual(store.town().placing("s"), ("spans", "a", tuple(cuts)))

    def test_a_span_of_no_rows(self):
        store = store_of([p(1)])
        store.lend("s", 1, 0)
        self.assertEqual(store.carry("s", 5), 0)
        self.assertEqual(store.moving("s"), (1, 0, None))
        store.settle("s")
        self.assertEqual(store.town().placing("s")[2], ((None, 0), (10, 0), (20, 2)))
        store.put("s", p(10))
        self.assertEqual(standing(store), [[p(1), p(10)], [], []])

    def test_settled_without_a_carry(self):
        store = store_of([p(1)])
        store.lend("s", 1, 0)
        store.settle("s")
        self.assertIsNone(store.moving("s"))

    def test_alike_rows(self):
        store = store_of([p(1)] * 5)
        store.lend("s", 0, 1)
        self.assertEqual(store.carry("s", 1), 5)
        self.assertEqual(standing(store), [[p(1)] * 5, [p(1)] * 5, []])
        store.settle("s")
        self.assertEqual(standing(store), [[], [p(1)] * 5, []])

    def test_unlike_rows_of_one_value(self):
        # The rows count, not the column of the spans.
        store = store_of([(1, "b"), (1, "a"), (1, "a"), (0, "z")])
        store.lend("s", 0, 1)
        self.assertEqual(store.carry("s", 2), 3)
        self.assertEqual(store.moving("s"), (0, 1, (1, "a")))
        self.assertEqual(store.stands("s", 1), [(0, "z"), (1, "a"), (1, "a")])
        self.refuses(NotYet, store.settle, "s")

    def test_put_below_at_and_above_the_mark(self):
        store = store_of([p(1), p(3), p(5)])
        store.lend("s", 0, 2)
        store.carry("s", 2)
        store.put("s", p(2))
        self.assertEqual(standing(store), [[p(1), p(2), p(3), p(5)], [], [p(1), p(2), p(3)]])
        store.put("s", p(3))
        self.assertEqual(standing(store), [[p(1), p(2), p(3), p(3), p(5)], [], [p(1), p(2), p(3), p(3)]])
        store.put("s", p(4))
        self.assertEqual(standing(store), [[p(1), p(2), p(3), p(3), p(4), p(5)], [], [p(1), p(2), p(3), p(3)]])
        # By the whole row: the same value as the mark's, and above it or not.
        store.put("s", (3, "q"))
        store.put("s", (3, "a"))
        self.assertEqual(store.stands("s", 2), [p(1), p(2), (3, "a"), p(3), p(3)])
        self.assertEqual(store.moving("s"), (0, 2, p(3)))
        self.assertEqual(store.carry("s", 1), 1)
        self.assertEqual(store.moving("s"), (0, 2, (3, "q")))
        self.assertEqual(store.carry("s", 9), 2)
        store.settle("s")
        self.assertEqual(standing(store), [[], [], [p(1), p(2), (3, "a"), p(3), p(3), (3, "q"), p(4), p(5)]])

    def test_drop_below_at_and_above_the_mark(self):
        store = store_of([p(1), p(2), p(3), p(3), p(5), p(6)])
        store.lend("s", 0, 2)
        store.carry("s", 3)
        store.drop("s", p(1))
        self.assertEqual(standing(store), [[p(2), p(3), p(3), p(5), p(6)], [], [p(2), p(3), p(3)]])
        store.drop("s", p(3))
        self.assertEqual(standing(store), [[p(2), p(3), p(5), p(6)], [], [p(2), p(3)]])
        store.drop("s", p(3))
        # The mark stays, though no such row is there.
        self.assertEqual(store.moving("s"), (0, 2, p(3)))
        self.assertEqual(standing(store), [[p(2), p(5), p(6)], [], [p(2)]])
        store.drop("s", p(5))
        self.assertEqual(standing(store), [[p(2), p(6)], [], [p(2)]])
        store.put("s", p(3))
        self.assertEqual(standing(store), [[p(2), p(3), p(6)], [], [p(2), p(3)]])
        self.refuses(NotYet, store.settle, "s")
        store.drop("s", p(6))
        store.settle("s")
        self.assertEqual(standing(store), [[], [], [p(2), p(3)]])

    def test_other_spans_stay_apart(self):
        store = store_of([p(1), p(11), p(21)])
        store.lend("s", 1, 2)
        store.carry("s", 1)
        # Below and above the mark, but not of the span.
        for row in (p(2), p(22)):
            store.put("s", row)
        self.assertEqual(standing(store), [[p(1), p(2)], [p(11)], [p(11), p(21), p(22)]])
        store.settle("s")
        self.assertEqual(standing(store), [[p(1), p(2)], [], [p(11), p(21), p(22)]])

    def test_all_dropped_while_it_moves(self):
        store = store_of([p(1), p(2)])
        store.lend("s", 0, 1)
        store.drop("s", p(1))
        self.refuses(NotYet, store.settle, "s")
        store.drop("s", p(2))
        store.settle("s")
        self.assertEqual(store.town().placing("s")[2][0], (None, 1))

    def test_not_yet(self):
        store = store_of([p(1), p(2)])
        store.lend("s", 0, 1)
        self.refuses(NotYet, store.settle, "s")
        store.carry("s", 0)
        self.refuses(NotYet, store.settle, "s")
        store.carry("s", 1)
        before = self.state(store)
        self.refuses(NotYet, store.settle, "s")
        self.assertEqual(self.state(store), before)
        store.carry("s", 1)
        store.put("s", p(3))
        self.refuses(NotYet, store.settle, "s")
        store.drop("s", p(3))
        store.settle("s")

    def test_a_move_behind_a_move(self):
        store = store_of([p(1), p(2)])
        for house in (1, 2, 0, 1):
            store.lend("s", 0, house)
            self.assertEqual(store.moving("s"), (0, house, None))
            self.assertEqual(store.carry("s", 1), 1)
            self.assertEqual(store.carry("s", 1), 1)
            store.settle("s")
            self.assertEqual(standing(store), [[p(1), p(2)] if here == house else [] for here in range(3)])
            if house == 2:
                store.split("s", 52)
        self.assertEqual(store.town().placing("s")[2], ((None, 1), (10, 1), (20, 2), (52, 2)))

    def test_moves_of_two_tables(self):
        store = store_of([p(1), (2, "a")])
        store.lend("s", 0, 1)
        store.lend("w", 1, 1)
        self.assertEqual((store.moving("s"), store.moving("w")), ((0, 1, None), (1, 1, None)))
        self.assertEqual(store.carry("w", 1), 1)
        self.assertEqual((store.moving("s"), store.moving("w")), ((0, 1, None), (1, 1, ("p", 1))))
        self.assertEqual(store.stands("s", 1), [])
        store.settle("w")
        self.assertEqual((store.moving("s"), store.moving("w")), ((0, 1, None), None))
        self.assertEqual(standing(store, "w"), [[], [("p", 1)], [("a", 2)]])

    def test_of_words(self):
        store = store_of([(1, "a"), (2, ""), (3, "lz"), (4, "m"), (5, "zz")])
        store.lend("w", 0, 1)
        self.assertEqual(store.carry("w", 2), 2)
        self.assertEqual(store.moving("w"), (0, 1, ("a", 1)))
        self.assertEqual(standing(store, "w"), [[("m", 4), ("zz", 5)], [("", 2), ("a", 1)],
                                                [("", 2), ("a", 1), ("lz", 3)]])

    def test_moving_of_other_tables(self):
        store = store_of()
        self.assertIsNone(store.moving("k"))
        self.assertIsNone(store.moving("c"))


class TownTest(StoreCase):
    def test_a_lent_span_where_it_stood(self):
        store = store_of([p(1), p(2), p(12)])
        store.lend("s", 0, 1)
        store.carry("s", 2)
        town = store.town()
        self.assertIsInstance(town, Town)
        self.assertEqual(town.houses(), HOUSES)
        self.assertEqual(town.placing("s"), ("spans", "a", CUTS))
        self.assertEqual([town.part("s", house) for house in range(3)], [[p(1), p(2)], [p(12)], []])
        self.assertEqual(town.whole("s"), [p(1), p(2), p(12)])
        store.settle("s")
        self.assertEqual([store.town().part("s", house) for house in range(3)], [[], [p(1), p(2), p(12)], []])

    def test_a_town_that_was_told_stays(self):
        store = store_of([p(1), p(2), p(12)])
        towns = [(store.town(), self.seen(store.town()))]
        for deed in (lambda: store.put("s", p(3)), lambda: store.drop("s", p(1)), lambda: store.split("s", 2),
                     lambda: store.lend("s", 1, 2), lambda: store.carry("s", 1), lambda: store.carry("s", 1),
                     lambda: store.settle("s"), lambda: store.put("k", p(9))):
            deed()
            towns.append((store.town(), self.seen(store.town())))
            for town, seen in towns:
                self.assertEqual(self.seen(town), seen)

    def seen(self, town):
        return [(name, town.placing(name), town.whole(name), [town.part(name, house) for house in range(HOUSES)])
                for name in sorted(town.heads())]


class OwnThingsTest(StoreCase):
    def test_what_was_handed_in_is_changed(self):
        rows = [p(1)]
        tables = {"s": (HEAD, ("spans", "a", CUTS), rows), "k": (HEAD, ("keys", "a"), rows)}
        store, other = Store(HOUSES, tables), Store(HOUSES, tables)
        before = self.state(store)
        rows.append(p(2))
        tables.clear()
        self.assertEqual(self.state(store), before)
        self.assertEqual(self.state(other), before)

    def test_what_was_handed_in_is_left_alone(self):
        rows = [p(3), p(1), p(2)]
        tables = {"s": (HEAD, ("spans", "a", CUTS), rows)}
        store = Store(HOUSES, tables)
        store.put("s", p(0))
        store.drop("s", p(3))
        self.assertEqual((rows, list(tables)), ([p(3), p(1), p(2)], ["s"]))

    def test_two_stores_of_the_same_tables(self):
        tables = {"s": (HEAD, ("spans", "a", CUTS), [p(1), p(2)])}
        store, other = Store(HOUSES, tables), Store(HOUSES, tables)
        before = self.state(other)
        store.put("s", p(3))
        store.lend("s", 0, 1)
        store.carry("s", 1)
        self.assertEqual(self.state(other), before)

    def test_what_was_told_is_changed(self):
        store = store_of([p(1), p(2), p(3)])
        store.lend("s", 0, 1)
        store.carry("s", 2)
        before = self.state(store)
        for name in ("s", "k", "c", "w"):
            for house in range(HOUSES):
                store.stands(name, house).append("else")
        town = store.town()
        town.tables()["s"].clear()
        town.tables().clear()
        town.whole("s").clear()
        self.assertEqual(self.state(store), before)

    def test_what_was_told_stays(self):
        store = store_of([p(1)])
        told = store.stands("s", 0)
        store.put("s", p(2))
        self.assertEqual(told, [p(1)])


class RefusedTest(StoreCase):
    NO_NAMES = STRANGE + STRANGE_TUPLES + [0, 1, "none", "", "by", "S", "s ", "tooooolong"]

    def unchanged_by(self, store, error, call, *given):
        before = self.state(store)
        self.refuses(error, call, *given)
        self.assertEqual(self.state(store), before)

    def test_no_table_ahead_of_all_else(self):
        store = store_of([p(1)])
        store.lend("s", 0, 1)
        for name in self.NO_NAMES:
            for thing in (p(1), None, Sulky()):
                self.unchanged_by(store, NoTable, store.put, name, thing)
                self.unchanged_by(store, NoTable, store.drop, name, thing)
                self.unchanged_by(store, NoTable, store.split, name, thing)
                self.unchanged_by(store, NoTable, store.lend, name, thing, thing)
                self.unchanged_by(store, NoTable, store.stands, name, thing)
            self.unchanged_by(store, NoTable, store.carry, name, 1)
            self.unchanged_by(store, NoTable, store.settle, name)
            self.unchanged_by(store, NoTable, store.moving, name)

    def test_no_row(self):
        things = STRANGE + STRANGE_TUPLES + [
            7, "a", (1,), (1, "p", 1), ("p", 1), (True, "p"), (1, "P"), (1, "tooolongg"), (1.0, "p"), [1, "p"],
            (1, None),
            (None, "p"), (1, 2), ("p", "p"), (Sulky(), "p"), ([], {})]
        for name in ("s", "k", "c"):
            store = store_of([p(1)])
            for thing in things:
                self.unchanged_by(store, NoRow, store.put, name, thing)
                self.unchanged_by(store, NoRow, store.drop, name, thing)
            for row in (p(2), (1, "q"), (1, ""), (-1, "p")):
                self.unchanged_by(store, NoRow, store.drop, name, row)

    def test_tables_by_keys_and_copies(self):
        store = store_of([p(1)])
        for name in ("k", "c"):
            for thing in (0, 5, None, Sulky(), "a"):
                self.unchanged_by(store, NoSpan, store.split, name, thing)
                self.unchanged_by(store, NoSpan, store.lend, name, thing, thing)
            self.unchanged_by(store, NoSpan, store.lend, name, 0, 1)
            self.unchanged_by(store, NoSpan, store.carry, name, 1)
            self.unchanged_by(store, NoSpan, store.settle, name)

    def test_split(self):
        store = store_of([p(1)])
        for low in STRANGE + STRANGE_TUPLES + ["a", "", 10, 20, 10.0, 5.0]:
            self.unchanged_by(store, NoSpan, store.split, "s", low)
        for low in STRANGE + [5, 0, "m", "M", "tooolongg"]:
            self.unchanged_by(store, NoSpan, store.split, "w", low)
        store.lend("s", 0, 1)
        for low in STRANGE + ["a", 10, 5, 20]:
            self.unchanged_by(store, Busy, store.split, "s", low)
        # A move of another table is no hindrance.
        store.split("w", "a")

    def test_split_of_eight_cuts(self):
        cuts = ((None, 0),) + tuple((low, low % 3) for low in range(10, 17))
        store = store_of([p(1)], cuts=cuts)
        for low in (5, 10, "a", None):
            self.unchanged_by(store, NoSpan, store.split, "s", low)
        store.lend("s", 0, 1)
        self.unchanged_by(store, Busy, store.split, "s", 5)

    def test_lend(self):
        store = store_of([p(1)])
        no_cuts = STRANGE + STRANGE_TUPLES + [-1, 3, 8, 10, "0", "a", 0.0]
        no_houses = STRANGE + STRANGE_TUPLES + [-1, 3, 99, "1", 1.0]
        for number in no_cuts:
            self.unchanged_by(store, NoSpan, store.lend, "s", number, 1)
            self.unchanged_by(store, NoSpan, store.lend, "s", number, 99)
        for house in no_houses:
            self.unchanged_by(store, NoHouse, store.lend, "s", 0, house)
        for number in range(3):
            self.unchanged_by(store, NoHouse, store.lend, "s", number, number)
        store.lend("s", 0, 1)
        for number in no_cuts:
            self.unchanged_by(store, NoSpan, store.lend, "s", number, 1)
            self.unchanged_by(store, NoSpan, store.lend, "s", number, None)
        for house in no_houses + [0]:
            self.unchanged_by(store, NoHouse, store.lend, "s", 0, house)
        for number, house in ((0, 1), (0, 2), (1, 0), (2, 1)):
            self.unchanged_by(store, Busy, store.lend, "s", number, house)
        store.lend("w", 0, 1)

    def test_a_span_of_one_house_town_cannot_be_lent(self):
        store = Store(1, {"s": (HEAD, ("spans", "a", ((None, 0), (5, 0))), [p(1)])})
        self.refuses(NoHouse, store.lend, "s", 0, 0)
        self.refuses(NoHouse, store.lend, "s", 1, 1)

    def test_carry_and_settle_without_a_move(self):
        store = store_of([p(1)])
        store.lend("w", 0, 1)
        self.unchanged_by(store, NoMove, store.carry, "s", 1)
        self.unchanged_by(store, NoMove, store.carry, "s", 0)
        self.unchanged_by(store, NoMove, store.settle, "s")
        store.lend("s", 1, 0)
        store.settle("s")
        self.unchanged_by(store, NoMove, store.carry, "s", 1)
        self.unchanged_by(store, NoMove, store.settle, "s")

    def test_stands(self):
        store = store_of([p(1)])
        for name in ("s", "k", "c"):
            for house in STRANGE + STRANGE_TUPLES + [-1, 3, "0", 1.0]:
                self.unchanged_by(store, NoHouse, store.stands, name, house)

    def test_a_store_is_refused_as_a_town(self):
        table = (HEAD, ("copies",), [p(1)])
        for houses in STRANGE + [0, 7, -1, "3", 3.0]:
            self.refuses(BadTown, Store, houses, {})
            self.refuses(BadTown, Town, houses, {})
        for tables in [thing for thing in STRANGE if not thing.__class__ == dict] + STRANGE_TUPLES + [
                {"by": table}, {1: table}, {"t": None}, {"t": table[:2]}, {"t": list(table)},
                {"t": ((), ("copies",), [])}, {"t": (HEAD, ("keys", "z"), [])}, {"t": (HEAD, ("copies",), (p(1),))},
                {"t": (HEAD, ("spans", "a", ()), [])}, {"t": (HEAD, ("spans", "a", ((None, 3),)), [])},
                {"t": (HEAD, ("spans", "a", ((1, 0),)), [])}, {"t": (HEAD, ("spans", "a", ((None, 0), ("a", 1))), [])},
                {"t": (HEAD, ("copies",), [p(1), (1, 1)])}, {"t": table, "u": (HEAD, ("copies",), [None])}]:
            self.refuses(BadTown, Store, 3, tables)
            self.refuses(BadTown, Town, 3, tables)
        self.assertEqual(Store(6, {}).town().heads(), {})

    def test_order_of_two_faults(self):
        """Each row of these is in the document's order: where several are due the first one is told."""
        store = store_of([p(1), p(2)])
        store.lend("s", 0, 1)
        self.refuses(NoTable, store.lend, "none", 9, 9)
        self.refuses(NoSpan, store.lend, "k", 9, 9)
        self.refuses(NoSpan, store.lend, "s", 9, 9)
        self.refuses(NoHouse, store.lend, "s", 0, 9)
        self.refuses(Busy, store.lend, "s", 0, 2)
        self.refuses(NoSpan, store.split, "k", None)
        self.refuses(Busy, store.split, "s", None)
        self.refuses(NotYet, store.settle, "s")
        still = store_of([p(1)])
        self.refuses(NoMove, still.settle, "s")
        self.refuses(NoSpan, still.settle, "c")
        for name, thing in itertools.product(("none", None), (None, (1, 1))):
            self.refuses(NoTable, still.put, name, thing)


if __name__ == "__main__":
    unittest.main()
