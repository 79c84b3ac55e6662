"""Towns: tables that stand in parts over several houses."""

from shardask.errors import BadTown, NoHouse, NoTable
from shardask.questions import kind_in
from shardask.values import home, is_head, is_name, is_number_below, is_one_of, is_row, is_tuple_of, is_value_of
from shardask.values import is_whole, names_of
from shardask.wholes import place_of

MOST_HOUSES = 6
MOST_CUTS = 8


def is_cut(thing, houses):
    return isinstance(thing, tuple) and len(thing) == 2 and is_number_below(thing[1], houses)


def are_cuts(thing, kind, houses):
    if not is_tuple_of(thing, 1, MOST_CUTS, lambda part: is_cut(part, houses)) or thing[0][0] is not None:
        return False
    lows = [cut[0] for cut in thing[1:]]
    if not all([is_value_of(low, kind) for low in lows]):
        return False
    return all([low < after for low, after in zip(lows, lows[1:])])


def is_column_in(head, thing):
    return is_name(thing) and thing in names_of(head)


def is_placing(thing, head, houses):
    if not isinstance(thing, tuple) or len(thing) == 0:
        return False
    if is_one_of(thing[0], ("copies",)):
        return len(thing) == 1
    if is_one_of(thing[0], ("keys",)):
        return len(thing) == 2 and is_column_in(head, thing[1])
    if not is_one_of(thing[0], ("spans",)) or len(thing) != 3 or not is_column_in(head, thing[1]):
        return False
    return are_cuts(thing[2], kind_in(head, thing[1]), houses)


def are_rows(thing, head):
    return isinstance(thing, list) and all([is_row(head, row) for row in thing])


def is_table(thing, houses):
    if not isinstance(thing, tuple) or len(thing) != 3 or not is_head(thing[0]):
        return False
    return is_placing(thing[1], thing[0], houses) and are_rows(thing[2], thing[0])


def need_town(houses, tables):
    if not is_whole(houses) or not 1 <= houses <= MOST_HOUSES or not isinstance(tables, dict):
        raise BadTown(None)
    for name, table in tables.items():
        if not is_name(name) or not is_table(table, houses):
            raise BadTown(None)


def placed_tables(houses, tables):
    need_town(houses, tables)
    # The rows are lists of their own: those handed in may be changed later.
    return dict([(name, (table[0], table[1], sorted(table[2]))) for name, table in tables.items()])


def table_in(placed, name):
    # What is no name may be no key of a dict either.
    if not is_name(name) or name not in placed:
        raise NoTable(None)
    return placed[name]


def cut_of(cuts, value):
    number = 0
    for place in range(1, len(cuts)):
        if cuts[place][0] <= value:
            number = place
    return number


def stands_at(head, placing, row, house, houses):
    if placing[0] == "copies":
        return True
    value = row[place_of(head, placing[1])]
    if placing[0] == "keys":
        return home(value, houses) == house
    cuts = placing[2]
    return cuts[cut_of(cuts, value)][1] == house


def rows_at(table, house, houses):
    if not is_number_below(house, houses):
        raise NoHouse(None)
    return [row for row in table[2] if stands_at(table[0], table[1], row, house, houses)]


class Town:
    def __init__(self, houses, tables):
        self.placed = placed_tables(houses, tables)
        self.house_count = houses

    def houses(self):
        return self.house_count

    def heads(self):
        return dict([(name, table[0]) for name, table in self.placed.items()])

    def placing(self, name):
        return table_in(self.placed, name)[1]

    def whole(self, name):
        return list(table_in(self.placed, name)[2])

    def tables(self):
        return dict([(name, list(table[2])) for name, table in self.placed.items()])

    def part(self, name, house):
        return rows_at(table_in(self.placed, name), house, self.house_count)
