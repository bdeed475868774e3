"""Reading a text as a formula, or finding its wrong word."""

from cancome.formula import Formula, joined, prefixed
from cancome.words import words_of

LEAVES = ("true", "m0", "m1", "m2", "m3")
PREFIXES = ("not", "EX", "AX", "EF", "AF", "EG", "AG")
JOINERS = ("and", "or", "EU", "AU")
DEEPEST = 40
GREATEST_BOUND = 12
END = ""


class WrongWord(Exception):
    """The text isn't a formula; place is its wrong word's, counted from 1."""

    def __init__(self, place):
        self.place = place


class Reader:
    """The words of a text, and how many of them have been taken."""

    def __init__(self, words):
        self.words = words
        self.taken = 0

    def ahead(self):
        if self.taken == len(self.words):
            return END
        return self.words[self.taken]

    def take(self):
        self.taken += 1


def formula_of(text):
    """The text's formula, written out; WrongWord if it isn't one."""
    reader = Reader(words_of(text))
    formula = read_formula(reader, 1)
    want(reader, END)
    return formula


def want(reader, word):
    if reader.ahead() != word:
        raise WrongWord(reader.taken + 1)


def read_formula(reader, deep):
    first = read_part(reader, deep)
    joiner = reader.ahead()
    if joiner not in JOINERS:
        return first
    reader.take()
    bound = None
    if joiner == "EU":
        bound = read_bound(reader)
    second = read_part(reader, deep)
    return joined(joiner, first, second, bound)


def read_part(reader, deep):
    word = reader.ahead()
    if word in LEAVES:
        reader.take()
        return Formula(word, [])
    opens = word == "(" or word in PREFIXES
    if not opens or deep > DEEPEST:
        raise WrongWord(reader.taken + 1)
    reader.take()
    if word in PREFIXES:
        return prefixed(word, read_part(reader, deep + 1))
    inner = read_formula(reader, deep + 1)
    want(reader, ")")
    reader.take()
    return inner


def read_bound(reader):
    """The k behind EU, which is taken, or None if the next word isn't one."""
    word = reader.ahead()
    if len(word) > 2 or not word.isdigit():
        return None
    bound = int(word)
    if bound > GREATEST_BOUND:
        return None
    reader.take()
    return bound
