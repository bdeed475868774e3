"""Promise 7, form: a formula's one form, and the refusals of a text."""

import random
import unittest

from tests.calling import GREATEST, SMALLEST, ask, ask_behind, ask_last, form, graph, node
from tests.reference import BOUNDS, LEAVES, random_tree, size_of, text_of, written_out

ROUND = graph([1, 2, 12], [(0, 1), (1, 2), (2, 0)])


class FormCase(unittest.TestCase):
    def written(self, text, expected):
        numbers = list(expected.encode("latin-1"))
        self.assertEqual(ask_last([form(text)]), [len(numbers)] + numbers, text)

    def refused(self, text, answer):
        self.assertEqual(ask_last([form(text)]), [answer], text)


class Written(FormCase):
    def test_leaves(self):
        for word in LEAVES:
            self.written(word, word)
            self.written(" (( " + word + "\n)) ", word)

    def test_prefixes_have_no_brackets(self):
        self.written("not m0", "not m0")
        self.written("EX ( m1 )", "EX m1")
        self.written("( EG ( not ( EX m2 ) ) )", "EG not EX m2")

    def test_brackets_around_what_joins(self):
        self.written("m0 and m1", "( m0 and m1 )")
        self.written("m0 or m1", "( m0 or m1 )")
        self.written("m0 EU m1", "( m0 EU m1 )")
        self.written("(m0)EU 3(m1)", "( m0 EU 3 m1 )")
        self.written("((m0 and m1))or(not(m2 EU m3))", "( ( m0 and m1 ) or not ( m2 EU m3 ) )")
        self.written("not m0 and not m1", "( not m0 and not m1 )")
        self.written("not(m0 and EX(m1 or m2))", "not ( m0 and EX ( m1 or m2 ) )")

    def test_written_out(self):
        self.written("AX m0", "not EX not m0")
        self.written("EF m0", "( true EU m0 )")
        self.written("AF m0", "not EG not m0")
        self.written("AG m0", "not ( true EU not m0 )")
        self.written("m0 AU m1", "not ( ( not m1 EU ( not m0 and not m1 ) ) or EG not m1 )")
        self.written("AX ( m0 and m1 )", "not EX not ( m0 and m1 )")
        self.written("EF AG m3", "( true EU not ( true EU not m3 ) )")
        self.written("EX m0 AU ( true EU 09 m1 )",
                     "not ( ( not ( true EU 9 m1 ) EU ( not EX m0 and not ( true EU 9 m1 ) ) )"
                     " or EG not ( true EU 9 m1 ) )")

    def test_k_without_needless_zeros(self):
        for word in BOUNDS:
            self.written("m0 EU " + word + " m1", "( m0 EU " + str(int(word)) + " m1 )")
        self.written("m0 EU 00 m1", "( m0 EU 0 m1 )")
        self.written("m0 EU 0 m1", "( m0 EU 0 m1 )")
        self.written("m0 EU 10 m1", "( m0 EU 10 m1 )")

    def test_not_twice_stays(self):
        self.written("not not m0", "not not m0")
        self.written("AX not m0", "not EX not not m0")

    def test_one_blank_between(self):
        self.written("\n\n( \n m0)and\n\n\n EX(EX   m1)\n", "( m0 and EX EX m1 )")

    def test_of_formulas_of_all_kinds(self):
        source = random.Random(7)
        trees = [random_tree(source, source.randrange(1, 6)) for turn in range(1500)]
        trees = [tree for tree in trees if len(text_of(tree)) <= 400]
        given = ask_behind([], [form(text_of(tree)) for tree in trees])
        written = [(tree, answer) for tree, answer in zip(trees, given) if size_of(tree) <= 40]
        self.assertGreater(len(written), 800)
        for tree, answer in written:
            expected = list(written_out(plain_bounds(tree)).encode())
            self.assertEqual(answer, [len(expected)] + expected, text_of(tree))
        for tree, answer in zip(trees, given):
            self.assertEqual(answer == [-5], size_of(tree) > 40, text_of(tree))
        # A form that is read again is its own form.
        forms = [answer[1:] for tree, answer in written if len(answer) <= 401]
        self.assertEqual([answer[1:] for answer in ask_behind([], [form(numbers) for numbers in forms])], forms)


def plain_bounds(tree):
    parts = tuple(plain_bounds(part) if isinstance(part, tuple) else part for part in tree[:3])
    return parts + tuple(int(bound) for bound in tree[3:])


class Refusals(FormCase):
    def test_argument_out_of_range(self):
        for text in (" " * 401, "m0" + " " * 399, [256], [109, 48, -1], [0] * 998, [SMALLEST], [GREATEST]):
            self.refused(text, -1)
        self.written("m0" + " " * 398, "m0")

    def test_wrong_word(self):
        self.refused("", -1001)
        self.refused("\n", -1001)
        self.refused("EX", -1002)
        self.refused("m0 EU 13 m1", -1003)
        self.refused("m0 EU 012 m1", -1003)
        self.refused("m0 and m1 and m2", -1004)
        self.refused("( m0", -1003)
        self.refused("(" * 41 + "m0" + ")" * 41, -1041)

    def test_wrong_word_comes_ahead_of_the_size(self):
        self.refused("not " * 40 + "m0 x", -1042)
        self.refused("m0 AU(" * 40 + "m1" + ")" * 39, -1161)

    def test_size(self):
        self.written("not " * 39 + "m0", "not " * 39 + "m0")
        self.refused("not " * 40 + "m0", -5)
        self.written("AG " * 9 + "not EX EX m0", "not ( true EU not " * 9 + "not EX EX m0" + " )" * 9)
        self.refused("AG " * 9 + "not not EX EX m0", -5)
        self.refused("m0 AU(" * 40 + "m1" + ")" * 40, -5)
        self.refused("(" * 40 + "m1" + ")AU m0" * 40, -5)

    def test_forty_deep(self):
        self.written("(" * 40 + "m0 or m1" + ")" * 40, "( m0 or m1 )")
        self.written("(" * 39 + "( m0 )EU 09 not m1" + ")" * 39, "( m0 EU 9 not m1 )")

    def test_the_graph_is_not_looked_at(self):
        expected = ask_last([form("EX m0")])
        self.assertEqual(expected, [5] + list(b"EX m0"))
        for calls in ([node(0)], ROUND, ROUND + [node(3)]):
            self.assertEqual(ask(calls + [form("EX m0"), form("x"), form([256]), form("not " * 40 + "m0")])[-4:],
                             [expected, [-1001], [-1], [-5]])


if __name__ == "__main__":
    unittest.main()
