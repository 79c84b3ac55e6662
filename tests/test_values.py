import unittest

from shardask.values import home, is_head, is_name, is_row, is_value, kind_of
from tests.things import STRANGE, STRANGE_TUPLES, UnchangedCase, deep_tuple

WORDS = "and by count down first group join keep least most named on sum table up where with".split()
LETTERS = "abcdefghijklmnopqrstuvwxyz"
# Texts that are no words: signs around the letters, capitals, blanks, figures, letters of other scripts.
NO_WORDS = [
    "A", "Z", "aB", "Ab", "`", "{", "@", "[", "a b", " a", "a ", " ", "a\n", "\n", "\t", "\0", "a_b", "_", "a1", "1",
    "0", "-1", "a.b", "'a'", "a-b", "\u00e4", "\u00df", "\u0430", "a\u0301", "\u017f", "\uff41", "\ud800",
    "abcdefghi", "a" * 9, "a" * 4000,
]
BIG = 10 ** 60 - 1


class NameTest(UnchangedCase):
    def test_names(self):
        for name in list(LETTERS) + ["ab", "abcdefgh", "zzzzzzzz", "tables", "coun", "number", "word", "an", "value"]:
            with self.subTest(name):
                self.assertIs(is_name(name), True)

    def test_none_of_the_seventeen_words(self):
        self.assertEqual(len(WORDS), 17)
        for word in WORDS:
            with self.subTest(word):
                self.assertIs(is_name(word), False)
                self.assertIs(is_name(word + "s"), True)

    def test_no_names(self):
        for text in [""] + NO_WORDS:
            with self.subTest(text[:20]):
                self.assertIs(is_name(text), False)

    def test_of_anything(self):
        for thing in STRANGE + STRANGE_TUPLES + [0, 1, -1, BIG, ("a",)]:
            self.assertIs(is_name(thing), False)


class ValueTest(unittest.TestCase):
    def test_numbers(self):
        for number in (0, 1, -1, 60, BIG, -BIG):
            with self.subTest(number):
                self.assertIs(is_value(number), True)
                self.assertEqual(kind_of(number), "number")

    def test_words(self):
        for word in ["", "a", "z", "ab", "abcdefgh", "zzzzzzzz"] + WORDS:
            with self.subTest(word):
                self.assertIs(is_value(word), True)
                self.assertEqual(kind_of(word), "word")

    def test_no_values(self):
        for text in NO_WORDS:
            with self.subTest(text[:20]):
                self.assertIs(is_value(text), False)

    def test_of_anything(self):
        for thing in STRANGE + STRANGE_TUPLES + [(1,), ("a",)]:
            self.assertIs(is_value(thing), False)


def wide(many):
    return tuple((letter, "number") for letter in LETTERS[:many])


class HeadTest(UnchangedCase):
    def test_heads(self):
        heads = [
            (("a", "number"),), (("a", "word"),), (("a", "number"), ("b", "word")),
            (("number", "number"), ("word", "number")), (("abcdefgh", "word"),), wide(7), wide(8),
        ]
        for head in heads:
            with self.subTest(head):
                self.assertIs(self.unchanged(is_head, head), True)

    def test_the_width(self):
        for many in range(12):
            with self.subTest(many):
                self.assertIs(is_head(wide(many)), 1 <= many <= 8)

    def test_names_twice(self):
        self.assertIs(is_head((("a", "number"), ("a", "number"))), False)
        self.assertIs(is_head((("a", "number"), ("a", "word"))), False)
        self.assertIs(is_head((("a", "number"), ("b", "word"), ("a", "word"))), False)
        self.assertIs(is_head(wide(7) + (("a", "word"),)), False)

    def test_wrong_columns(self):
        right = ("a", "number")
        wrong = [
            ("", "number"), ("table", "number"), ("A", "number"), ("abcdefghi", "number"), (1, "number"),
            (None, "number"), ("b", "text"), ("b", "Number"), ("b", ""), ("b", "numbers"), ("b", None), ("b", int),
            ("b", 0), ("b", ["number"]), ("b",), ("b", "number", "word"), ["b", "number"], "bn", "b", (),
        ]
        for column in wrong:
            with self.subTest(column):
                self.assertIs(is_head((column,)), False)
                self.assertIs(is_head((right, column)), False)
                self.assertIs(is_head((column, right)), False)

    def test_one_column_is_no_head_by_itself(self):
        self.assertIs(is_head(("a", "number")), False)
        self.assertIs(is_head([("a", "number")]), False)

    def test_of_anything(self):
        for thing in STRANGE + STRANGE_TUPLES + [1, "a", "number"]:
            self.assertIs(is_head(thing), False)
        for thing in STRANGE + STRANGE_TUPLES:
            self.assertIs(is_head((thing,)), False)
            self.assertIs(is_head((("a", thing),)), False)
            self.assertIs(is_head(((thing, "word"), ("a", "word"))), False)


class RowTest(UnchangedCase):
    HEAD = (("n", "number"), ("w", "word"), ("m", "number"))

    def test_rows(self):
        for row in [(1, "a", 2), (0, "", 0), (-BIG, "abcdefgh", BIG), (1, "table", 1)]:
            with self.subTest(row):
                self.assertIs(self.unchanged(is_row, self.HEAD, row), True)
        self.assertIs(is_row((("w", "word"),), ("",)), True)
        self.assertIs(is_row(wide(8), (1,) * 8), True)

    def test_a_value_less_or_more(self):
        for row in [(), (1,), (1, "a"), (1, "a", 2, 3), (1, "a", 2, "b")]:
            with self.subTest(row):
                self.assertIs(is_row(self.HEAD, row), False)
        self.assertIs(is_row(wide(8), (1,) * 7), False)
        self.assertIs(is_row(wide(8), (1,) * 9), False)

    def test_the_other_kind(self):
        for row in [("a", "a", 2), (1, 1, 2), (1, "a", "b"), ("", "", "")]:
            with self.subTest(row):
                self.assertIs(is_row(self.HEAD, row), False)

    def test_truths_are_no_numbers(self):
        for row in [(True, "a", 1), (1, "a", False), (1, True, 1)]:
            with self.subTest(row):
                self.assertIs(is_row(self.HEAD, row), False)

    def test_no_values(self):
        for text in NO_WORDS:
            with self.subTest(text[:20]):
                self.assertIs(is_row(self.HEAD, (1, text, 1)), False)

    def test_of_anything(self):
        for thing in STRANGE + STRANGE_TUPLES + [1, "abc", [1, "a", 2], deep_tuple(3)]:
            self.assertIs(is_row(self.HEAD, thing), False)
            self.assertIs(is_row((("n", "number"),), thing), False)
            self.assertIs(is_row((("w", "word"),), thing), False)
        for thing in STRANGE + STRANGE_TUPLES:
            self.assertIs(is_row(self.HEAD, (thing, "a", 1)), False)
            self.assertIs(is_row(self.HEAD, (1, thing, 1)), False)
            self.assertIs(is_row(self.HEAD, (1, "a", thing)), False)


class HomeTest(unittest.TestCase):
    def test_numbers(self):
        for houses in range(1, 7):
            for number in range(-20, 21):
                with self.subTest(number, houses=houses):
                    told = home(number, houses)
                    self.assertIn(told, range(houses))
                    self.assertEqual((number - told) % houses, 0)

    def test_numbers_told(self):
        self.assertEqual([home(7, houses) for houses in range(1, 7)], [0, 1, 1, 3, 2, 1])
        self.assertEqual([home(-7, houses) for houses in range(1, 7)], [0, 1, 2, 1, 3, 5])
        self.assertEqual([home(0, houses) for houses in range(1, 7)], [0] * 6)

    def test_sixty_figures(self):
        # All figures are 9: the rests by 2, 3, 4, 5 and 6 are seen from the figures.
        self.assertEqual([home(BIG, houses) for houses in range(1, 7)], [0, 1, 0, 3, 4, 3])
        self.assertEqual([home(-BIG, houses) for houses in range(1, 7)], [0, 1, 0, 1, 1, 3])

    def test_words_told(self):
        # a is 1, z is 26, aa is 28, ba is 55, az is 53, abc is 27 * 27 + 2 * 27 + 3 = 786.
        told = {"": 0, "a": 1, "b": 2, "z": 26, "aa": 28, "az": 53, "ba": 55, "zz": 728, "abc": 786}
        # zzzzzzzz is the greatest word of eight letters, one less than 27 to the eighth.
        told["zzzzzzzz"] = 282429536480
        told["aaaaaaaa"] = 10862674480
        for word, number in told.items():
            for houses in range(1, 7):
                with self.subTest(word, houses=houses):
                    self.assertEqual(home(word, houses), number % houses)

    def test_the_first_letter_counts_most(self):
        self.assertEqual(home("ab", 5), 4)
        self.assertEqual(home("ba", 5), 0)

    def test_a_question_word_is_a_word(self):
        self.assertEqual(home("by", 6), (2 * 27 + 25) % 6)


if __name__ == "__main__":
    unittest.main()
