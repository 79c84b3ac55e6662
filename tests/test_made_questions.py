"""Many made questions, told by the program and by a second, slower way of going through the document's words."""

import random
import unittest

from shardask.errors import ShardError
from shardask.questions import checked, head_of
from shardask.values import is_head, is_row
from shardask.wholes import rows_of, whole

HEADS = {
    "r": (("a", "number"), ("b", "word"), ("c", "number")),
    "s": (("a", "number"), ("d", "word")),
    "t": (("e", "word"), ("b", "word"), ("c", "number"), ("f", "number")),
}
NAMES = tuple("abcdefxyz")
VALUES = {"number": (-1, 0, 1, 2), "word": ("", "p", "pq", "q")}
MANY = 4000


class Refused(Exception):
    pass


def need(holds, error):
    if not holds:
        raise Refused(error)


def unlike(names):
    names = list(names)
    return len(set(names)) == len(names)


def go(question, tables):
    """Columns as a list of (name, kind), rows as dicts: another form than the program's."""
    ways = {"table": of_table, "where": of_where, "keep": of_keep, "named": of_named, "join": of_join,
            "group": of_group, "first": of_first}
    columns, rows = ways[question[0]](question, tables)
    need(unlike(name for name, _ in columns), "Twice")
    need(1 <= len(columns) <= 8, "TooWide")
    return columns, rows


def of_table(question, tables):
    need(question[1] in HEADS, "NoTable")
    columns = list(HEADS[question[1]])
    return columns, [dict(zip((name for name, _ in columns), row)) for row in tables[question[1]]]


def of_where(question, tables):
    columns, rows = go(question[1], tables)
    kinds = dict(columns)
    for name, _, (what, other) in question[2]:
        need(name in kinds and (what == "value" or other in kinds), "NoColumn")
    for name, sign, (what, other) in question[2]:
        kind = ("number" if isinstance(other, int) else "word") if what == "value" else kinds[other]
        need(kinds[name] == kind, "NoKind")
    signs = {"=": lambda x, y: x == y, "!": lambda x, y: not x == y, "<": lambda x, y: y > x, ">": lambda x, y: y < x}
    for name, sign, (what, other) in question[2]:
        rows = [row for row in rows if signs[sign](row[name], other if what == "value" else row[other])]
    return columns, rows


def of_keep(question, tables):
    columns, rows = go(question[1], tables)
    kinds = dict(columns)
    need(set(question[2]) <= set(kinds), "NoColumn")
    need(unlike(question[2]), "Twice")
    return [(name, kinds[name]) for name in question[2]], [{name: row[name] for name in question[2]} for row in rows]


def of_named(question, tables):
    columns, rows = go(question[1], tables)
    need(len(columns) == len(question[2]), "NoColumn")
    need(unlike(question[2]), "Twice")
    new = {old: name for (old, _), name in zip(columns, question[2])}
    return [(new[old], kind) for old, kind in columns], [{new[old]: row[old] for old in row} for row in rows]


def of_join(question, tables):
    columns, rows = go(question[1], tables)
    others, other_rows = go(question[2], tables)
    kinds, other_kinds = dict(columns), dict(others)
    need(all(c in kinds and d in other_kinds for c, d in question[3]), "NoColumn")
    need(all(kinds[c] == other_kinds[d] for c, d in question[3]), "NoKind")
    need(unlike(c for c, _ in question[3]) and unlike(d for _, d in question[3]), "Twice")
    rest = [column for column in others if column[0] not in [d for _, d in question[3]]]
    need(unlike(name for name, _ in columns + rest), "Twice")
    joined = []
    for row in rows:
        for other in other_rows:
            if all(row[c] == other[d] for c, d in question[3]):
                joined.append({**row, **{name: other[name] for name, _ in rest}})
    return columns + rest, joined


def of_group(question, tables):
    columns, rows = go(question[1], tables)
    kinds = dict(columns)
    need(set(question[2]) <= set(kinds) and all(c is None or c in kinds for _, c, _ in question[3]), "NoColumn")
    need(all(word != "sum" or kinds[c] == "number" for word, c, _ in question[3]), "NoKind")
    need(unlike(question[2]), "Twice")
    new = [(name, kinds[name]) for name in question[2]]
    new += [(name, kinds[c] if word in ("least", "most") else "number") for word, c, name in question[3]]
    need(unlike(name for name, _ in new), "Twice")
    grouped = []
    for values in sorted({tuple(row[name] for name in question[2]) for row in rows}):
        lot = [row for row in rows if tuple(row[name] for name in question[2]) == values]
        one = dict(zip(question[2], values))
        for word, c, name in question[3]:
            column = sorted(1 if c is None else row[c] for row in lot)
            one[name] = column[0] if word == "least" else column[-1] if word == "most" else sum(column)
        grouped.append(one)
    return new, grouped


def of_first(question, tables):
    columns, rows = go(question[1], tables)
    need({name for name, _ in question[2]} <= {name for name, _ in columns}, "NoColumn")
    need(unlike(name for name, _ in question[2]), "Twice")
    # Taken one by one: the row that no other one stands ahead of.
    left, told = list(rows), []
    while left and len(told) < question[3]:
        best = left[0]
        for row in left[1:]:
            if ahead(row, best, list(question[2]) + [(name, "up") for name, _ in columns]):
                best = row
        left.remove(best)
        told.append(best)
    return columns, told


def ahead(row, other, keys):
    for name, way in keys:
        if row[name] != other[name]:
            return row[name] < other[name] if way == "up" else row[name] > other[name]
    return False


def size(question):
    if question[0] == "table":
        return 1
    if question[0] == "join":
        return 1 + size(question[1]) + size(question[2])
    return size(question[1]) + (len(question[2]) if question[0] == "where" else 1)


def made_tests(chance, names, kinds):
    tests = []
    for _ in range(chance.randint(1, 3)):
        name = chance.choice(names)
        kind = kinds.get(name, "number") if chance.random() < 0.97 else "word"
        other = ("value", chance.choice(VALUES[kind]))
        if chance.random() < 0.3:
            alike = [column for column in names if kinds.get(column) == kind]
            other = ("column", chance.choice(alike or names))
        tests.append((name, chance.choice("=<>!"), other))
    return tuple(tests)


def made_sums(chance, names):
    sums = []
    for new in chance.sample(NAMES, chance.randint(0, 3)):
        word = chance.choice(("count", "sum", "least", "most"))
        sums.append((word, None if word == "count" else chance.choice(names), new))
    return tuple(sums)


def made(chance, depth):
    if depth == 0 or chance.random() < 0.1:
        return ("table", chance.choice(("r", "s", "t") if chance.random() < 0.99 else ("u",)))
    inner = made(chance, depth - 1)
    try:
        kinds = dict(head_of(HEADS, inner))
    except ShardError:
        kinds = {}
    names = list(kinds) or list(NAMES)
    if chance.random() < 0.05:
        names = list(NAMES)
    sort = chance.choice(("where", "keep", "named", "join", "group", "first"))
    some = chance.sample(names, chance.randint(1, len(names)))
    if chance.random() < 0.05:
        some = (some + [chance.choice(some)])[:8]
    if sort == "where":
        return ("where", inner, made_tests(chance, names, kinds))
    if sort == "keep":
        return ("keep", inner, tuple(some[:8]))
    if sort == "named":
        return ("named", inner, tuple(chance.sample(NAMES, min(len(names), 8))))
    if sort == "group":
        return ("group", inner, tuple(some[:chance.randint(0, 3)]), made_sums(chance, names))
    if sort == "first":
        keys = tuple((name, chance.choice(("up", "down"))) for name in some[:chance.randint(0, 3)])
        return ("first", inner, keys, chance.choice((0, 1, 2, 3, 5, 60)))
    return made_join(chance, inner, names, made(chance, chance.randint(0, depth - 1)))


def made_join(chance, inner, names, other):
    try:
        others = [name for name, _ in head_of(HEADS, other)]
    except ShardError:
        others = list(NAMES)
    pairs = [(name, name) for name in names if name in others][:3]
    if not pairs or chance.random() < 0.2:
        pairs = [(chance.choice(names), chance.choice(others)) for _ in range(chance.randint(1, 2))]
    return ("join", inner, other, tuple(pairs))


def made_tables(chance):
    tables = {}
    for name, head in HEADS.items():
        many = chance.choice((0, 1, 2, 4, 8))
        tables[name] = [tuple(chance.choice(VALUES[kind]) for _, kind in head) for _ in range(many)]
    return tables


class MadeQuestionsTest(unittest.TestCase):
    def test_both_ways_tell_the_same(self):
        chance = random.Random(20)
        told = {}
        for _ in range(MANY):
            question, tables = made(chance, chance.randint(0, 4)), made_tables(chance)
            if size(question) > 20:
                continue
            self.assertEqual(checked(question), question)
            try:
                columns, rows = go(question, tables)
                seen = self.compare(question, tables, columns, rows)
            except Refused as refused:
                seen = refused.args[0]
                self.compare_refusal(question, tables, seen)
            told[seen] = told.get(seen, 0) + 1
        # All refusals and many answers with rows were among them, else this compares too little.
        for seen in ("NoTable", "NoColumn", "NoKind", "Twice", "TooWide"):
            self.assertGreater(told[seen], 5, told)
        self.assertGreater(told["rows"], MANY // 5, told)

    def compare(self, question, tables, columns, rows):
        self.assertEqual(head_of(HEADS, question), tuple(columns))
        self.assertTrue(is_head(tuple(columns)))
        rows = [tuple(row[name] for name, _ in columns) for row in rows]
        self.assertTrue(all(is_row(tuple(columns), row) for row in rows))
        self.assertEqual(rows_of(HEADS, tables, question), sorted(rows), question)
        answer = rows if question[0] == "first" else sorted(rows)
        self.assertEqual(whole(HEADS, tables, question), answer, question)
        return "rows" if rows else "none"

    def compare_refusal(self, question, tables, name):
        for call in (lambda: head_of(HEADS, question), lambda: rows_of(HEADS, tables, question),
                     lambda: whole(HEADS, tables, question)):
            with self.assertRaises(ShardError) as taken:
                call()
            self.assertEqual(taken.exception.__class__.__name__, name, question)


if __name__ == "__main__":
    unittest.main()
