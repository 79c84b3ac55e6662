"""Names, values, heads and rows, and the home of a value."""

# The words that a written question is made of: a name like one of them could not be told from it.
QUESTION_WORDS = (
    "and", "by", "count", "down", "first", "group", "join", "keep", "least",
    "most", "named", "on", "sum", "table", "up", "where", "with",
)
LETTERS = "abcdefghijklmnopqrstuvwxyz"
KINDS = ("number", "word")
MOST_LETTERS = 8
MOST_COLUMNS = 8
# One more than there are letters, so that no word is read as another one's number.
WORD_BASE = 27


def is_whole(thing):
    # True and False are ints to Python.
    return isinstance(thing, int) and not isinstance(thing, bool)


def is_number_below(thing, many):
    # Houses and acts are numbered from 0.
    return is_whole(thing) and 0 <= thing < many


def is_word(thing):
    if not isinstance(thing, str) or len(thing) > MOST_LETTERS:
        return False
    return all([sign in LETTERS for sign in thing])


def is_one_of(thing, texts):
    # Only texts are compared: other things may refuse to be.
    return isinstance(thing, str) and thing in texts


def is_tuple_of(thing, least, most, is_part):
    if not isinstance(thing, tuple) or not least <= len(thing) <= most:
        return False
    return all([is_part(part) for part in thing])


def are_unlike(names):
    return len(set(names)) == len(names)


def names_of(head):
    return [column[0] for column in head]


def is_name(thing):
    return is_word(thing) and thing != "" and thing not in QUESTION_WORDS


def is_value(thing):
    return is_whole(thing) or is_word(thing)


def kind_of(value):
    return "number" if is_whole(value) else "word"


def is_value_of(thing, kind):
    return is_value(thing) and kind_of(thing) == kind


def is_column(thing):
    if not isinstance(thing, tuple) or len(thing) != 2:
        return False
    return is_name(thing[0]) and is_one_of(thing[1], KINDS)


def is_head(thing):
    return is_tuple_of(thing, 1, MOST_COLUMNS, is_column) and are_unlike(names_of(thing))


def is_row(head, thing):
    if not isinstance(thing, tuple) or len(thing) != len(head):
        return False
    return all([is_value_of(value, column[1]) for value, column in zip(thing, head)])


def word_number(word):
    number = 0
    for letter in word:
        number = number * WORD_BASE + LETTERS.index(letter) + 1
    return number


def home(value, houses):
    number = value if is_whole(value) else word_number(value)
    return number % houses
