"""Promise 5, holds: where formulas hold."""

import random
import unittest

from tests.calling import ask_behind, ask_last, cut, edge, graph, holds, marks
from tests.reference import LEAVES, PREFIXES, size_of, text_of, where

# 0 goes on to 1 and 2; 1 goes back to 0; 2 goes on to 3; 3 is its own next node; 4 goes to 3 or stays.
# Mark 0: nodes 0 and 1; mark 1: node 3; mark 2: nodes 0, 2 and 4; mark 3: none.
SMALL = graph([5, 1, 4, 2, 4], [(0, 1), (0, 2), (1, 0), (2, 3), (3, 3), (4, 3), (4, 4)])


class Small(unittest.TestCase):
    def at(self, text, nodes):
        self.assertEqual(ask_last(SMALL + [holds(text)]), [len(nodes)] + nodes, text)

    def test_marks_and_joining(self):
        self.at("true", [0, 1, 2, 3, 4])
        self.at("not true", [])
        self.at("m0", [0, 1])
        self.at("m1", [3])
        self.at("m2", [0, 2, 4])
        self.at("m3", [])
        self.at("m0 and m2", [0])
        self.at("m0 or m1", [0, 1, 3])
        self.at("not m0", [2, 3, 4])

    def test_next(self):
        self.at("EX m0", [0, 1])
        self.at("EX m2", [0, 1, 4])
        self.at("EX m1", [2, 3, 4])
        self.at("AX m0", [1])
        self.at("AX m1", [2, 3])

    def test_until(self):
        self.at("m0 EU m2", [0, 1, 2, 4])
        self.at("m2 EU m1", [0, 2, 3, 4])
        self.at("m3 EU m1", [3])
        self.at("m1 EU m3", [])
        self.at("EF m1", [0, 1, 2, 3, 4])
        self.at("EF m0", [0, 1])

    def test_until_within_k_steps(self):
        self.at("true EU 0 m1", [3])
        self.at("true EU 1 m1", [2, 3, 4])
        self.at("true EU 2 m1", [0, 2, 3, 4])
        self.at("true EU 3 m1", [0, 1, 2, 3, 4])
        self.at("true EU 12 m1", [0, 1, 2, 3, 4])
        self.at("m2 EU 1 m1", [2, 3, 4])
        self.at("m2 EU 12 m1", [0, 2, 3, 4])

    def test_for_ever(self):
        self.at("EG m0", [0, 1])
        self.at("EG m1", [3])
        self.at("EG m2", [4])
        self.at("EG m3", [])
        self.at("EG true", [0, 1, 2, 3, 4])

    def test_on_all_ways(self):
        self.at("AF m1", [2, 3])
        self.at("AF m2", [0, 1, 2, 4])
        self.at("AG m1", [3])
        self.at("AG ( m1 or m2 )", [2, 3, 4])
        self.at("m2 AU m1", [2, 3])
        self.at("m0 AU m2", [0, 1, 2, 4])
        self.at("true AU m1", [2, 3])

    def test_the_graph_as_it_is_now(self):
        calls = SMALL + [cut(4, 4), marks(0, 0), edge(1, 3)]
        self.assertEqual(ask_last(calls + [holds("AF m1")]), [3, 2, 3, 4])
        self.assertEqual(ask_last(calls + [holds("EX m1")]), [4, 1, 2, 3, 4])
        self.assertEqual(ask_last(calls + [holds("m0")]), [1, 1])


class LongRow(unittest.TestCase):
    """Twelve nodes, each but the last with the following one as its next; mark 1 is the last one's alone."""

    ROW = graph([1] * 11 + [2], [(number, number + 1) for number in range(11)] + [(11, 11)])

    def test_each_k(self):
        for bound in range(12):
            nodes = list(range(11 - bound, 12))
            self.assertEqual(ask_last(self.ROW + [holds("m0 EU " + str(bound) + " m1")]), [len(nodes)] + nodes)

    def test_without_k_and_for_ever(self):
        every = [12] + list(range(12))
        for text in ("m0 EU m1", "m0 EU 12 m1", "EF m1", "AF m1", "m0 AU m1", "EG ( m0 or m1 )"):
            self.assertEqual(ask_last(self.ROW + [holds(text)]), every, text)
        self.assertEqual(ask_last(self.ROW + [holds("EG m0")]), [0])
        self.assertEqual(ask_last(self.ROW + [holds("EG m1")]), [1, 11])


class AgainstReference(unittest.TestCase):
    def test_many_graphs_and_formulas(self):
        source = random.Random(12)
        for turn in range(120):
            count = source.randrange(1, 13)
            all_marks = [source.randrange(16) for number in range(count)]
            nexts = [random_nexts(source, count) for number in range(count)]
            calls = graph(all_marks, [(start, end) for start in range(count) for end in nexts[start]])
            trees = [tree for tree in (random_tree(source, 5) for number in range(30)) if size_of(tree) <= 40]
            trees = [tree for tree in trees if len(text_of(tree)) <= 400]
            given = ask_behind(calls, [holds(text_of(tree)) for tree in trees])
            for tree, answer in zip(trees, given):
                nodes = sorted(where(tree, all_marks, nexts))
                self.assertEqual(answer, [len(nodes)] + nodes, (text_of(tree), all_marks, nexts))


def random_nexts(source, count):
    # Mostly few next nodes, else nearly everything can come from everywhere.
    many = min(count, source.choice((1, 1, 1, 2, 2, 3, 4)))
    return source.sample(range(count), many)


def random_tree(source, deep):
    if deep <= 1 or source.randrange(8) == 0:
        return (source.choice(LEAVES),)
    if source.randrange(3) == 0:
        return (source.choice(PREFIXES), random_tree(source, deep - 1))
    joiner = source.choice(("and", "or", "EU", "EU", "EU", "AU"))
    tree = (joiner, random_tree(source, deep - 1), random_tree(source, source.randrange(deep)))
    if joiner == "EU" and source.randrange(3) > 0:
        tree += (source.choice((0, 1, 2, 3, 5)),)
    return tree


if __name__ == "__main__":
    unittest.main()
