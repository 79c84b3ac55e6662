"""Values and questions written by words, read and shown."""

import random
import unittest

from shardask.errors import NoQuestion, NoWords, ShardError
from shardask.questions import checked
from shardask.reading import read_question, read_value
from shardask.showing import shown_question, shown_rows, shown_value
from tests.test_made_questions import made, size
from tests.things import STRANGE, STRANGE_TUPLES, UnchangedCase

T = ("table", "t")
COUNT = ("count", None, "n")


class ReadingCase(UnchangedCase):
    def refuses(self, error, call, *given):
        with self.assertRaises(ShardError) as taken:
            call(*given)
        self.assertIs(taken.exception.__class__, error, given)
        self.assertIsNone(taken.exception.act)

    def writes(self, text, question):
        """The text writes the question, and the question is shown by the text."""
        self.assertEqual(read_question(text), question)
        self.assertEqual(checked(question), question)
        self.assertEqual(self.unchanged(shown_question, question), text)

    def writes_none(self, *texts):
        for text in texts:
            self.refuses(NoWords, read_question, text)


class ValuesTest(ReadingCase):
    def test_numbers(self):
        for number in (0, 1, 7, 10, 100, 123, -1, -10, -987, 10 ** 59, 10 ** 60 - 1, -10 ** 59, 1 - 10 ** 60):
            self.assertEqual(read_value(str(number)), number)
            self.assertEqual(shown_value(number), str(number))
        for many in range(1, 61):
            for figure in "159":
                self.assertEqual(read_value(figure * many), int(figure * many))
                self.assertEqual(read_value("-" + figure * many), -int(figure * many))

    def test_words(self):
        for word in ("", "a", "z", "ab", "abcdefgh", "by", "where", "and", "count"):
            self.assertEqual(read_value("'" + word + "'"), word)
            self.assertEqual(shown_value(word), "'" + word + "'")

    def test_what_is_no_value(self):
        texts = [
            "", " ", "-", "--1", "-0", "00", "01", "-01", "007", "+1", "1 ", " 1", "1.0", "1e3", "0x1", "1_000", "1,0",
            "- 1", "1-", "1\n", "\n1", "1\t", "1" * 61, "-" + "1" * 61, "0" * 60, "9" * 4000, "'", "''' ", "'''", "a",
            "ab", "'a", "a'", "'A'", "'a b'", "' '", "'a '", "'abcdefghi'", "'a1'", "'1'", "\"a\"", "'a''b'",
            "''a''", "'a'\n", "'\n'", "where", "None", "True", "nought", "\u0661", "\u00b2", "'\u00e4'", "\uff11",
            "'-1'", "'a'b", "a'b'"]
        for text in texts:
            self.refuses(NoWords, read_value, text)

    def test_what_is_no_text(self):
        for thing in STRANGE + STRANGE_TUPLES + [0, 1, -1, 10 ** 70]:
            self.refuses(NoWords, read_value, thing)

    def test_long_numbers_are_shown(self):
        self.assertEqual(shown_value(10 ** 64), "1" + "0" * 64)
        self.assertEqual(shown_value(-10 ** 64), "-1" + "0" * 64)


class StepsTest(ReadingCase):
    def test_table(self):
        for name in ("t", "sale", "abcdefgh", "value", "column", "copies", "number", "ask", "ok"):
            self.writes(name, ("table", name))

    def test_where(self):
        for sign in "=<>!":
            self.writes("t where c " + sign + " 3", ("where", T, (("c", sign, ("value", 3)),)))
        self.writes("t where c = 'ab'", ("where", T, (("c", "=", ("value", "ab")),)))
        self.writes("t where c = ''", ("where", T, (("c", "=", ("value", "")),)))
        self.writes("t where c = 'where'", ("where", T, (("c", "=", ("value", "where")),)))
        self.writes("t where c = ab", ("where", T, (("c", "=", ("column", "ab")),)))
        self.writes("t where c = column", ("where", T, (("c", "=", ("column", "column")),)))
        self.writes("t where value ! value", ("where", T, (("value", "!", ("column", "value")),)))
        self.writes("t where c = -5 and d < 0 and e > c", ("where", T, (
            ("c", "=", ("value", -5)), ("d", "<", ("value", 0)), ("e", ">", ("column", "c")))))

    def test_keep_and_named(self):
        for word in ("keep", "named"):
            self.writes("t " + word + " a", (word, T, ("a",)))
            self.writes("t " + word + " b a b", (word, T, ("b", "a", "b")))
            self.writes("t " + word + " a b c d e f g h", (word, T, tuple("abcdefgh")))

    def test_join(self):
        self.writes("t join ( u ) on c d", ("join", T, ("table", "u"), (("c", "d"),)))
        self.writes("t join ( t ) on c c and d e and e d", ("join", T, T, (("c", "c"), ("d", "e"), ("e", "d"))))

    def test_group(self):
        self.writes("t group", ("group", T, (), ()))
        self.writes("t group a b", ("group", T, ("a", "b"), ()))
        self.writes("t group with count n", ("group", T, (), (COUNT,)))
        self.writes("t group a with count n with sum b m with least c l with most c k", ("group", T, ("a",), (
            COUNT, ("sum", "b", "m"), ("least", "c", "l"), ("most", "c", "k"))))
        self.writes("t group a b c d e f g h", ("group", T, tuple("abcdefgh"), ()))

    def test_first(self):
        for many in (0, 1, 5, 59, 60):
            self.writes("t first " + str(many), ("first", T, (), many))
        self.writes("t first 5 by a up", ("first", T, (("a", "up"),), 5))
        self.writes("t first 5 by a down by b up by a up", ("first", T, (("a", "down"), ("b", "up"), ("a", "up")), 5))

    def test_one_behind_another(self):
        self.writes("t where a = 1 where b = 2 and c = 3", ("where", ("where", T, (("a", "=", ("value", 1)),)), (
            ("b", "=", ("value", 2)), ("c", "=", ("value", 3)))))
        self.writes("t keep a b keep a named b", ("named", ("keep", ("keep", T, ("a", "b")), ("a",)), ("b",)))
        self.writes("t group group first 1 first 2 by a up", (
            "first", ("first", ("group", ("group", T, (), ()), (), ()), (), 1), (("a", "up"),), 2))
        self.writes("t join ( u ) on a b where a = b and c = d", (
            "where", ("join", T, ("table", "u"), (("a", "b"),)),
            (("a", "=", ("column", "b")), ("c", "=", ("column", "d")))))

    def test_the_document_s_own(self):
        asked = ("where", ("table", "sale"), (("n", ">", ("value", 3)), ("who", "=", ("value", "ab"))))
        joined = ("join", asked, ("keep", ("table", "shop"), ("id", "town")), (("shop", "id"),))
        grouped = ("group", joined, ("town",), (("count", None, "many"),))
        self.writes("sale where n > 3 and who = 'ab' join ( shop keep id town ) on shop id group town with count many"
                    " first 5 by many down", ("first", grouped, (("many", "down"),), 5))

    def test_questions_on_the_right_side(self):
        inner = ("join", ("table", "u"), ("first", ("table", "v"), (), 1), (("c", "d"),))
        self.writes("t join ( u join ( v first 1 ) on c d ) on a b", ("join", T, inner, (("a", "b"),)))
        self.writes("t join ( u ) on a b join ( v ) on c d", (
            "join", ("join", T, ("table", "u"), (("a", "b"),)), ("table", "v"), (("c", "d"),)))
        self.writes("t join ( u group ) on a b group", (
            "group", ("join", T, ("group", ("table", "u"), (), ()), (("a", "b"),)), (), ()))
        self.writes("t join ( u where a = 1 and b = 2 ) on a b and c d", (
            "join", T, ("where", ("table", "u"), (("a", "=", ("value", 1)), ("b", "=", ("value", 2)))),
            (("a", "b"), ("c", "d"))))


class SizeTest(ReadingCase):
    def test_of_steps(self):
        self.assertEqual(size(read_question("t" + " first 1" * 19)), 20)
        self.writes_none("t" + " first 1" * 20, "t" + " group" * 20, "t" + " first 1" * 480)

    def test_of_tests(self):
        self.assertEqual(size(read_question("t" + " where a = 1 and b = 2 and c = 3" * 6 + " where a = 1")), 20)
        self.writes_none("t" + " where a = 1 and b = 2 and c = 3" * 6 + " where a = 1 and b = 2")

    def test_of_joins(self):
        self.assertEqual(size(read_question("t" + " join ( u ) on a b" * 9 + " first 1")), 20)
        self.writes_none("t" + " join ( u ) on a b" * 10)
        nested = "t join ( " * 9 + "t" + " ) on a b" * 9
        self.assertEqual(size(read_question(nested)), 19)
        self.writes_none("t join ( " * 10 + "t" + " ) on a b" * 10)

    def test_deep_ones(self):
        for depth in (11, 20, 21, 22, 200, 210):
            self.writes_none("t join ( " * depth + "t" + " ) on a b" * depth)
        self.writes_none(*("t join ( " * depth + "t" for depth in (1, 30, 440)))
        self.writes_none("t join ( " * 440, "t" + " ) on a b" * 400, "( " * 1999 + "(", "t join " + "( " * 1900)


class NoWordsTest(ReadingCase):
    def test_blanks(self):
        for text in ("t where c = 3", "t keep a b", "t join ( u ) on c d", "t group a with count n", "t group",
                     "t first 1 by a up", "t"):
            read_question(text)
            self.writes_none(" " + text, text + " ", text + "\n", "\n" + text, text + "\t", "\t" + text, text + "\x00")
            for place, sign in enumerate(text):
                if sign == " ":
                    for other in ("  ", "\t", "\n", " \n", "\n ", "   ", "\r", "\u00a0", "\x0b"):
                        self.writes_none(text[:place] + other + text[place + 1:])
        self.writes_none("", " ", "  ", "\n", "\t")

    def test_words_left_out_twice_and_exchanged(self):
        text = ("t where c = 3 and d ! 'a' join ( u keep a b ) on c d and e f group g with count n with sum h m "
                "first 5 by g down")
        words = text.split(" ")
        read_question(text)
        self.assertEqual(shown_question(read_question(text)), text)
        # Where a name stands in a row of names, one less or twice writes another question.
        free = ("a", "b", "g")
        for place, word in enumerate(words):
            without = words[:place] + words[place + 1:]
            twice = words[:place + 1] + words[place:]
            if word not in free:
                self.writes_none(" ".join(without))
            # Behind a group of no names another group may stand.
            if word not in free + ("group",):
                self.writes_none(" ".join(twice))
            for other in (":", "?", "()", "=", ")", "(", "1", "on", "T", "''", "x y z q r s t u v"):
                if word == "3" and other in ("1", "''"):
                    continue
                if word == "'a'" and other in ("1", "''"):
                    continue
                if (word, other) in (("5", "1"), ("!", "="), ("=", "="), (")", ")"), ("(", "("), ("on", "on")):
                    continue
                self.writes_none(" ".join(words[:place] + [other] + words[place + 1:]))
        for place in range(len(words) - 1):
            exchanged = words[:place] + [words[place + 1], words[place]] + words[place + 2:]
            if words[place:place + 2] not in (["a", "b"], ["c", "d"], ["e", "f"], ["h", "m"]):
                self.writes_none(" ".join(exchanged))

    def test_the_words_of_questions_are_no_names(self):
        for word in ("and", "by", "count", "down", "first", "group", "join", "keep", "least", "most", "named", "on",
                     "sum", "table", "up", "where", "with"):
            self.writes_none(word, "t where " + word + " = 1", "t where a = " + word, "t keep " + word,
                             "t join ( " + word + " ) on a b", "t join ( u ) on " + word + " b",
                             "t join ( u ) on a " + word, "t group a with count " + word,
                             "t group a with sum " + word + " n", "t first 1 by " + word + " up", "table t",
                             word + " where a = 1")

    def test_names_that_are_none(self):
        for word in ("T", "t1", "abcdefghi", "t_", "1", "-1", "'t'", "t,", "(", ")", "*", "=", "t:number"):
            self.writes_none(word, "t keep " + word, "t where " + word + " = 1", "t group a " + word,
                             "t group with count " + word, "t join ( t ) on a " + word)

    def test_where(self):
        self.writes_none("t where", "t where a", "t where a =", "t where a = 1 and", "t where a 1", "t where = 1",
                         "t where a = 1 b = 2", "t where a == 1", "t where a <= 1", "t where a <> 1", "t where a=1",
                         "t where a = 01", "t where a = -0", "t where a = " + "1" * 61, "t where a = 'abcdefghi'",
                         "t where a = 'A'", "t where a = b c", "t where a = A", "t and a = 1", "where a = 1",
                         "t where a = 1 and b = 2 and c = 3 and d = 4", "t where 1 = a", "t where a = 1 or b = 2")

    def test_keep_and_named(self):
        for word in ("keep", "named"):
            self.writes_none("t " + word, "t " + word + " a b c d e f g h i", "t " + word + " 1", "t " + word + " a,b",
                             "t " + word + " a and b", word + " a")

    def test_join(self):
        self.writes_none("t join ( u ) on c", "t join ( u ) on", "t join ( u )", "t join ( u on c d", "t join u on c d",
                         "t join u ) on c d", "t join ( ) on c d", "t join (", "t join", "t join ( u ) ) on c d",
                         "t join ( ( u ) on c d", "t join ( ( u ) ) on c d", "t join (u) on c d", "( t )", "t )", "t (",
                         "t join ( u ) on c d )", "t join ( u ) on c d e", "t join ( u ) on c d e f",
                         "t join ( u ) on c d and", "t join ( u ) on c d and e", "t join ( u ) on c = d",
                         "t join ( u ) and c d", "t join ( u ) on a b and c d and e f and g h", "t on c d",
                         "t join ( u ) where c d", "t join ( u v ) on c d")

    def test_group(self):
        self.writes_none("t group a with", "t group a with count", "t group a with count n m", "t group a with sum n",
                         "t group a with sum", "t group a with least n", "t group a with mean b n", "t group a count n",
                         "t group a with count n and count m", "t group a b c d e f g h i", "t with count n",
                         "t group with count a with count b with count c with count d with count e", "t group 1",
                         "t group a with sum b n m", "t group a with n count", "t group a with count n b")

    def test_first(self):
        self.writes_none("t first", "t first 61", "t first 100", "t first -1", "t first 05", "t first 00", "t first -0",
                         "t first a", "t first 'a'", "t first ''", "t first by a up", "t first 5 by", "t first 5 by a",
                         "t first 5 by a sideways", "t first 5 a up", "t first 5 by a up and b down", "t first 5 by up",
                         "t first 5 by a up b down", "t first 5 by a up by b up by c up by d up", "t first 1 2",
                         "t first 5 by a UP", "t by a up", "t first " + "9" * 60, "t first 5.0", "t first True")

    def test_other_texts(self):
        self.writes_none("t u", "t t", "t 1", "t where", "t limit 5", "t;", "t; u", "t where a = 1;", "ask t", "t -",
                         "-",
                         "t Where a = 1", "T", "t where a = 1 ; t", "t\x00", "\u00e4", "t where a = '\u00e4'")

    def test_what_is_no_text(self):
        for thing in STRANGE + STRANGE_TUPLES + [0, 1, ("table", "t"), ["t"], b"t"]:
            self.refuses(NoWords, read_question, thing)


class ShownTest(ReadingCase):
    def test_what_is_no_question(self):
        for thing in STRANGE + STRANGE_TUPLES + ["t", "", 0, ("table", "by"), ("first", T, (), 61), ("scan", "t")]:
            self.refuses(NoQuestion, shown_question, thing)
            self.refuses(NoQuestion, shown_question, ("join", T, thing, (("a", "b"),)))
        question = T
        for _ in range(20):
            question = ("first", question, (), 1)
        self.refuses(NoQuestion, shown_question, question)
        self.assertEqual(shown_question(question[1]), "t" + " first 1" * 19)

    def test_rows(self):
        for rows, text in (
                ([], "-"), ([(1,)], "1"), ([("",)], "''"), ([(-1, "a")], "-1 'a'"), ([("a",), ("b",)], "'a'; 'b'"),
                ([(1, "a", 0), (2, "", -7)], "1 'a' 0; 2 '' -7"), ([(2,), (1,), (2,)], "2; 1; 2"),
                ([(10 ** 63,)], "1" + "0" * 63)):
            self.assertEqual(self.unchanged(shown_rows, rows), text)

    def test_made_questions(self):
        chance = random.Random(25)
        for _ in range(2000):
            question = made(chance, chance.randint(0, 6))
            if size(question) <= 20:
                text = shown_question(question)
                self.assertEqual(read_question(text), question)
                self.assertNotIn("  ", text)


if __name__ == "__main__":
    unittest.main()
