"""Stores: tables that rows are put into and dropped from, and whose spans move from house to house meanwhile."""

from shardask.errors import Busy, NoHouse, NoMove, NoRow, NoSpan, NotYet, Twice
from shardask.questions import kind_in
from shardask.towns import MOST_CUTS, Town, cut_of, need_town, placed_tables, rows_at, table_in
from shardask.values import is_number_below, is_row, is_value_of
from shardask.wholes import place_of


def with_rows(table, rows):
    return table[:2] + (sorted(rows),)


def with_cuts(table, cuts):
    return (table[0], table[1][:2] + (cuts,), table[2])


def may_cut_at(table, low):
    column = table[1][1]
    cuts = table[1][2]
    if len(cuts) >= MOST_CUTS or not is_value_of(low, kind_in(table[0], column)):
        return False
    return low not in [cut[0] for cut in cuts]


def span_rows(table, number):
    place = place_of(table[0], table[1][1])
    return [row for row in table[2] if cut_of(table[1][2], row[place]) == number]


def is_above(row, mark):
    # None: nothing is carried yet, so that each row is still to come.
    return mark is None or row > mark


class Store:
    def __init__(self, houses, tables):
        self.placed = placed_tables(houses, tables)
        self.house_count = houses
        # For each table of which a span moves (number, house, mark).
        self.moves = {}

    def begin(self, name, head, placing):
        if name in self.placed:
            raise Twice(None)
        need_town(self.house_count, {name: (head, placing, [])})
        self.placed[name] = (head, placing, [])

    def cut_table(self, name):
        table = table_in(self.placed, name)
        if table[1][0] != "spans":
            raise NoSpan(None)
        return table

    def need_still(self, name):
        if name in self.moves:
            raise Busy(None)

    def move_of(self, name):
        if name not in self.moves:
            raise NoMove(None)
        return self.moves[name]

    def put(self, name, row):
        table = table_in(self.placed, name)
        if not is_row(table[0], row):
            raise NoRow(None)
        self.placed[name] = with_rows(table, table[2] + [row])

    def drop(self, name, row):
        table = table_in(self.placed, name)
        if not is_row(table[0], row) or row not in table[2]:
            raise NoRow(None)
        rows = list(table[2])
        rows.remove(row)
        self.placed[name] = with_rows(table, rows)

    def split(self, name, low):
        table = self.cut_table(name)
        self.need_still(name)
        if not may_cut_at(table, low):
            raise NoSpan(None)
        cuts = table[1][2]
        number = cut_of(cuts, low)
        behind = number + 1
        self.placed[name] = with_cuts(table, cuts[:behind] + ((low, cuts[number][1]),) + cuts[behind:])

    def lend(self, name, number, house):
        cuts = self.cut_table(name)[1][2]
        if not is_number_below(number, len(cuts)):
            raise NoSpan(None)
        if not is_number_below(house, self.house_count) or house == cuts[number][1]:
            raise NoHouse(None)
        self.need_still(name)
        self.moves[name] = (number, house, None)

    def rows_to_come(self, name):
        move = self.moves[name]
        return [row for row in span_rows(self.placed[name], move[0]) if is_above(row, move[2])]

    def carry(self, name, many):
        self.cut_table(name)
        move = self.move_of(name)
        waiting = self.rows_to_come(name)
        unlike = sorted(set(waiting))[:max(many, 0)]
        if not unlike:
            return 0
        self.moves[name] = move[:2] + (unlike[-1],)
        return len(waiting) - len(self.rows_to_come(name))

    def settle(self, name):
        table = self.cut_table(name)
        move = self.move_of(name)
        if self.rows_to_come(name):
            raise NotYet(None)
        number = move[0]
        cuts = list(table[1][2])
        cuts[number] = (cuts[number][0], move[1])
        self.placed[name] = with_cuts(table, tuple(cuts))
        self.moves.pop(name)

    def moving(self, name):
        table_in(self.placed, name)
        return self.moves.get(name)

    def stands(self, name, house):
        table = table_in(self.placed, name)
        rows = rows_at(table, house, self.house_count)
        move = self.moving(name)
        if move is None or move[1] != house:
            return rows
        return sorted(rows + [row for row in span_rows(table, move[0]) if not is_above(row, move[2])])

    def town(self):
        return Town(self.house_count, self.placed)
