"""What the document says of all the calls, worked out in other ways than the program's.

A call is a tuple: its number, then its arguments, texts among them as tuples of numbers.
"""

import functools
import re

from tests.reference import BOUNDS, LEAVES, PREFIXES, size_of, where, written_out, wrong_word

ARGUMENTS = ["m", "aa", "aa", "am", "a", "t", "at", "t", "", "aa", "", "tt"]


def words_of(text):
    return [word.decode("latin-1") for word in re.findall(rb"[()]|[^() \n]+", bytes(text))]


def tree_of(words):
    """The tree of words that are a formula."""
    return formula_at(words, 0)[0]


def formula_at(words, place):
    left, place = part_at(words, place)
    if place == len(words) or words[place] == ")":
        return left, place
    joiner = words[place]
    bound = (int(words[place + 1]),) if words[place + 1] in BOUNDS else ()
    right, place = part_at(words, place + 1 + len(bound))
    return (joiner, left, right) + bound, place


def part_at(words, place):
    if words[place] in LEAVES:
        return (words[place],), place + 1
    if words[place] in PREFIXES:
        inner, end = part_at(words, place + 1)
        return (words[place], inner), end
    inner, end = formula_at(words, place + 1)
    return inner, end + 1


@functools.cache
def refusal_of(text):
    """The refusal of a text, None if there is none."""
    words = words_of(text)
    wrong = wrong_word(words)
    if wrong > 0:
        return -1000 - wrong
    return -5 if size_of(tree_of(words)) > 40 else None


def ways(nexts, start, steps, left):
    """All ways of so many steps, all of whose nodes but the last are in left; those with lesser nodes first."""
    if steps == 0:
        yield [start]
    elif start in left:
        for there in sorted(nexts[start]):
            for rest in ways(nexts, there, steps - 1, left):
                yield [start] + rest


def shown(tree, start, all_marks, nexts):
    """The place where it goes round and the nodes told, None if the formula is of none of the four kinds."""
    head = tree[0]
    if head == "EF":
        return shown(("EU", ("true",), tree[1]), start, all_marks, nexts)
    if head == "EX":
        return -1, [start, min(set(nexts[start]) & where(tree[1], all_marks, nexts))]
    if head == "EU":
        left, right = where(tree[1], all_marks, nexts), where(tree[2], all_marks, nexts)
        return -1, next(way for steps in range(13) for way in ways(nexts, start, steps, left) if way[-1] in right)
    if head == "EG":
        allowed = where(tree, all_marks, nexts)
        passed = [start]
        while True:
            there = min(set(nexts[passed[-1]]) & allowed)
            if there in passed:
                return passed.index(there), passed
            passed.append(there)
    return None


def alike_by_round(all_marks, nexts):
    """For each round, up to more than are wanted, the set of the pairs of nodes that are in one class."""
    return alike_by_round_of_tuples(tuple(all_marks), tuple(tuple(ahead) for ahead in nexts))


@functools.lru_cache(4)
def alike_by_round_of_tuples(all_marks, nexts):
    nodes = range(len(all_marks))
    pairs = [(here, there) for here in nodes for there in nodes]
    rounds = [{(here, there) for here, there in pairs if all_marks[here] == all_marks[there]}]
    for turn in range(len(all_marks) + 3):
        old = rounds[-1]
        rounds.append({(here, there) for here, there in old
                       if all(any((one, other) in old for other in nexts[there]) for one in nexts[here])
                       and all(any((one, other) in old for other in nexts[here]) for one in nexts[there])})
    return rounds


def classes_of(all_marks, nexts):
    """For each node its class."""
    alike = alike_by_round(all_marks, nexts)[len(all_marks)]
    leasts = [min(there for there in range(len(all_marks)) if (here, there) in alike)
              for here in range(len(all_marks))]
    return [sorted(set(leasts)).index(least) for least in leasts]


def told_between(here, there, rounds, all_marks, nexts):
    """The tree of the formula told of two nodes that part."""
    number = min(turn for turn, alike in enumerate(rounds) if (here, there) not in alike)
    if number == 0:
        mark = min(mark for mark in range(4) if (all_marks[here] ^ all_marks[there]) & 2 ** mark)
        named = ("m" + str(mark),)
        return named if all_marks[here] & 2 ** mark else ("not", named)
    alike = rounds[number - 1]
    for first, second in ((here, there), (there, here)):
        for one in sorted(nexts[first]):
            if not any((one, other) in alike for other in nexts[second]):
                told = [told_between(one, other, rounds, all_marks, nexts) for other in sorted(nexts[second])]
                return ("EX", chained(told)) if first == here else ("not", ("EX", chained(told)))


def chained(trees):
    return trees[0] if len(trees) == 1 else ("and", trees[0], chained(trees[1:]))


class Model:
    """A graph as lists, and what each call answers on it."""

    def __init__(self):
        self.marks = []
        self.nexts = []

    def answer(self, call):
        number, arguments = call[0], call[1:]
        if not all(self.fits(kind, value) for kind, value in zip(ARGUMENTS[number], arguments)):
            return [-1]
        if number in (5, 6, 8, 9, 10, 11) and [] in self.nexts:
            return [-2]
        takers = [self.node, self.edge, self.cut, self.set_marks, self.told, self.holds, self.shows, self.form,
                  self.classes, self.apart, self.quotient, self.same]
        return takers[number](*arguments)

    def fits(self, kind, value):
        if kind == "t":
            return len(value) < 401 and set(value) <= set(range(256))
        return value in range(16 if kind == "m" else 12)

    def missing(self, *nodes):
        return max(nodes) >= len(self.marks)

    def node(self, marks):
        if len(self.marks) == 12:
            return [-4]
        self.marks.append(marks)
        self.nexts.append([])
        return [len(self.marks) - 1]

    def edge(self, start, end):
        if self.missing(start, end):
            return [-3]
        if end in self.nexts[start]:
            return [-5]
        if len(self.nexts[start]) == 4:
            return [-6]
        self.nexts[start].append(end)
        return [0]

    def cut(self, start, end):
        if self.missing(start, end):
            return [-3]
        if end not in self.nexts[start]:
            return [-5]
        self.nexts[start].remove(end)
        return [0]

    def set_marks(self, node, marks):
        if self.missing(node):
            return [-3]
        self.marks[node] = marks
        return [0]

    def told(self, node):
        if self.missing(node):
            return [-3]
        return [self.marks[node], len(self.nexts[node])] + sorted(self.nexts[node])

    def where(self, text):
        return where(tree_of(words_of(text)), self.marks, self.nexts)

    def holds(self, text):
        refusal = refusal_of(text)
        return [refusal] if refusal else listed(sorted(self.where(text)))

    def shows(self, node, text):
        if self.missing(node):
            return [-3]
        refusal = refusal_of(text)
        if refusal:
            return [refusal]
        if node not in self.where(text):
            return [-4]
        found = shown(tree_of(words_of(text)), node, self.marks, self.nexts)
        return [0, found[0]] + listed(found[1]) if found else [-6]

    def form(self, text):
        refusal = refusal_of(text)
        return [refusal] if refusal else listed(list(written_out(tree_of(words_of(text))).encode()))

    def classes(self):
        return listed(classes_of(self.marks, self.nexts))

    def apart(self, here, there):
        if self.missing(here, there):
            return [-3]
        rounds = alike_by_round(self.marks, self.nexts)
        parted = [turn for turn, alike in enumerate(rounds) if (here, there) not in alike]
        if not parted:
            return [-4]
        if parted[0] > 5:
            return [-6]
        tree = told_between(here, there, rounds, self.marks, self.nexts)
        return [-5] if size_of(tree) > 40 else [parted[0]] + listed(list(written_out(tree).encode()))

    def quotient(self):
        classes = classes_of(self.marks, self.nexts)
        found = [len(set(classes))]
        for number in range(len(set(classes))):
            members = [node for node in range(len(classes)) if classes[node] == number]
            ahead = {classes[there] for node in members for there in self.nexts[node]}
            found += [self.marks[members[0]]] + listed(sorted(ahead))
        return found

    def same(self, first, second):
        refusals = [refusal_of(first), refusal_of(second)]
        if refusals[0] and refusals[0] < -1000:
            return [refusals[0]]
        if refusals[1] and refusals[1] < -1000:
            return [refusals[1] - 1000]
        return [-5] if -5 in refusals else listed(sorted(self.where(first) ^ self.where(second)))


def listed(numbers):
    return [len(numbers)] + numbers


def handed_in(call):
    """The call's numbers as they are handed in."""
    numbers = [call[0]]
    for argument in call[1:]:
        numbers += listed(list(argument)) if isinstance(argument, tuple) else [argument]
    return numbers
