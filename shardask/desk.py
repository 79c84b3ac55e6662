"""The desk: a store that is spoken to by rows of words, and answers with texts."""

from shardask.early import early
from shardask.errors import NoWords
from shardask.parts import sent, told
from shardask.planner import plan_of
from shardask.reading import Words, read_question, read_value
from shardask.showing import shown_rows
from shardask.stores import Store
from shardask.values import KINDS, is_name, is_number_below, is_one_of

DONE = "ok"
NUMBER_END = 1000


def read_number(word):
    number = read_value(word)
    if not is_number_below(number, NUMBER_END):
        raise NoWords(None)
    return number


def read_column(word):
    halves = word.partition(":")
    if not is_name(halves[0]) or not is_one_of(halves[2], KINDS):
        raise NoWords(None)
    return (halves[0], halves[2])


def read_columns(words):
    columns = [read_column(words.word())]
    # No word of a placing ahead of its cuts has this sign.
    while words.ahead() is not None and ":" in words.ahead():
        columns.append(read_column(words.word()))
    return tuple(columns)


def read_cut(word):
    halves = word.partition(":")
    return (read_value(halves[0]), read_number(halves[2]))


def read_cuts(words):
    cuts = [(None, read_number(words.word()))]
    while words.ahead() is not None:
        cuts.append(read_cut(words.word()))
    return tuple(cuts)


def read_placing(words):
    sort = words.word()
    if sort == "copies":
        return ("copies",)
    if sort == "keys":
        return ("keys", words.name())
    if sort == "spans":
        return ("spans", words.name(), read_cuts(words))
    raise NoWords(None)


def read_row(words):
    values = [words.value()]
    while words.ahead() is not None:
        values.append(words.value())
    return tuple(values)


class Desk:
    def __init__(self, houses):
        self.store = Store(houses, {})

    def say(self, row):
        words = Words(row)
        sort = words.word()
        if sort in ("ask", "cost"):
            return self.asked(sort, row.partition(" ")[2])
        if sort == "carry":
            return self.carried(words)
        if sort == "table":
            self.begun(words)
        elif sort in ("put", "drop"):
            self.changed(sort, words)
        elif sort in ("split", "lend", "settle"):
            self.moved(sort, words)
        else:
            raise NoWords(None)
        return DONE

    def begun(self, words):
        name = words.name()
        head = read_columns(words)
        placing = read_placing(words)
        words.need_end()
        self.store.begin(name, head, placing)

    def changed(self, sort, words):
        name = words.name()
        row = read_row(words)
        if sort == "put":
            self.store.put(name, row)
        else:
            self.store.drop(name, row)

    def moved(self, sort, words):
        name = words.name()
        if sort == "split":
            low = words.value()
            words.need_end()
            self.store.split(name, low)
        elif sort == "lend":
            cut = read_number(words.word())
            house = read_number(words.word())
            words.need_end()
            self.store.lend(name, cut, house)
        else:
            words.need_end()
            self.store.settle(name)

    def carried(self, words):
        name = words.name()
        many = read_number(words.word())
        words.need_end()
        return str(self.store.carry(name, many))

    def asked(self, sort, text):
        question = read_question(text)
        town = self.store.town()
        plan = plan_of(town, early(town.heads(), question))
        if sort == "ask":
            return shown_rows(told(town, plan))
        return str(sum([bundle[3] for bundle in sent(town, plan)]))
