"""Values and questions read from texts."""

from shardask.errors import NoQuestion, NoWords
from shardask.questions import MOST_SIZE, checked
from shardask.values import is_name, is_word

FIGURES = "0123456789"
MOST_FIGURES = 60


def are_figures(text):
    if not 1 <= len(text) <= MOST_FIGURES or not all([sign in FIGURES for sign in text]):
        return False
    return text == "0" or text[0] != "0"


def is_number_text(text):
    if text[:1] == "-":
        return are_figures(text[1:]) and text != "-0"
    return are_figures(text)


def is_word_text(text):
    return len(text) >= 2 and text[0] == "'" and text[-1] == "'" and is_word(text[1:-1])


def read_value(word):
    if not isinstance(word, str):
        raise NoWords(None)
    if is_number_text(word):
        return int(word)
    if is_word_text(word):
        return word[1:-1]
    raise NoWords(None)


class Words:
    def __init__(self, text):
        if not isinstance(text, str):
            raise NoWords(None)
        self.words = text.split(" ")
        self.taken_count = 0

    def ahead(self):
        return self.words[self.taken_count] if self.taken_count < len(self.words) else None

    def word(self):
        told = self.ahead()
        if told is None:
            raise NoWords(None)
        self.taken_count = self.taken_count + 1
        return told

    def name(self):
        told = self.word()
        if not is_name(told):
            raise NoWords(None)
        return told

    def names(self):
        told = []
        while is_name(self.ahead()):
            told.append(self.word())
        return tuple(told)

    def value(self):
        return read_value(self.word())

    def takes(self, word):
        # Whether it is ahead; then it is taken.
        if self.ahead() != word:
            return False
        self.taken_count = self.taken_count + 1
        return True

    def need(self, word):
        if not self.takes(word):
            raise NoWords(None)

    def need_end(self):
        if self.ahead() is not None:
            raise NoWords(None)


def read_other(word):
    return ("column", word) if is_name(word) else ("value", read_value(word))


def read_test(words):
    return (words.name(), words.word(), read_other(words.word()))


def read_pair(words):
    return (words.name(), words.name())


def read_sum(words):
    word = words.word()
    column = None if word == "count" else words.name()
    return (word, column, words.name())


def read_key(words):
    return (words.name(), words.word())


def one_and_more(words, read_one):
    told = [read_one(words)]
    while words.takes("and"):
        told.append(read_one(words))
    return tuple(told)


def each_behind(words, word, read_one):
    told = []
    while words.takes(word):
        told.append(read_one(words))
    return tuple(told)


def read_join(words, question, depth):
    words.need("(")
    other = read_within(words, depth + 1)
    words.need(")")
    words.need("on")
    return ("join", question, other, one_and_more(words, read_pair))


def read_step(words, question, depth):
    sort = words.word()
    if sort == "where":
        return ("where", question, one_and_more(words, read_test))
    if sort in ("keep", "named"):
        return (sort, question, words.names())
    if sort == "join":
        return read_join(words, question, depth)
    if sort == "group":
        names = words.names()
        return ("group", question, names, each_behind(words, "with", read_sum))
    if sort == "first":
        many = words.value()
        return ("first", question, each_behind(words, "by", read_key), many)
    raise NoWords(None)


def read_within(words, depth):
    # Each join around it adds to the size, so that what lies deeper writes no question, however long the text is.
    if depth > MOST_SIZE:
        raise NoWords(None)
    question = ("table", words.name())
    while words.ahead() is not None and words.ahead() != ")":
        question = read_step(words, question, depth)
    return question


def read_question(text):
    words = Words(text)
    question = read_within(words, 0)
    words.need_end()
    try:
        return checked(question)
    except NoQuestion:
        raise NoWords(None) from None
