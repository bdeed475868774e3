"""Promise 5, holds: texts, the wrong word, the size, and which refusal comes first."""

import itertools
import random
import unittest

from tests.calling import GREATEST, SMALLEST, ask, ask_behind, ask_last, cut, edge, graph, holds, node, told
from tests.reference import LEAVES, PREFIXES, random_tree, size_of, text_of, wrong_word

# Node 0 has mark 0 alone, node 1 mark 1, node 2 marks 2 and 3; they go round.
ROUND = graph([1, 2, 12], [(0, 1), (1, 2), (2, 0)])
ALL = [3, 0, 1, 2]
NONE = [0]


class TextCase(unittest.TestCase):
    def says(self, text, answer):
        self.assertEqual(ask_last(ROUND + [holds(text)]), answer, text)

    def wrong(self, text, place):
        self.says(text, [-1000 - place])


class Words(TextCase):
    def test_blanks_and_line_feeds_part_words(self):
        for text in ("m0 or m1", " m0  or\nm1\n", "\n\n m0\n\nor \n m1 "):
            self.says(text, [2, 0, 1])

    def test_brackets_are_words_by_themselves(self):
        self.says("(m0)or(m1)", [2, 0, 1])
        self.says("((m0)or m1)", [2, 0, 1])
        self.says("EX(m0)or m0", [2, 0, 2])
        self.wrong("(EX m0or)", 3)

    def test_other_bytes_part_nothing(self):
        for byte in [0, 1, 9, 11, 12, 13, 31, 33, 63, 95, 127, 128, 160, 255]:
            self.says(list(b"m0") + [byte] + list(b"or m1"), [-1001])
            self.says([byte] + list(b" m0"), [-1001])
            self.says(list(b"m0 or m1 ") + [byte], [-1004])
            self.says(list(b"m0 or m1") + [byte], [-1003])

    def test_each_byte_alone(self):
        for byte in range(256):
            self.says([byte], [-1002] if byte == 40 else [-1001])

    def test_words_are_taken_as_they_are_written(self):
        for word in ("TRUE", "True", "tru", "truem0", "m", "m4", "m00", "M0", "ex", "Not", "false", "0", "12", "?"):
            self.wrong(word, 1)


class Grammar(TextCase):
    def test_each_form(self):
        for text, answer in [
            ("true", ALL), ("m0", [1, 0]), ("m1", [1, 1]), ("m2", [1, 2]), ("m3", [1, 2]),
            ("( m0 )", [1, 0]), ("not m0", [2, 1, 2]), ("EX m0", [1, 2]), ("AX m1", [1, 0]), ("EF m3", ALL),
            ("AF m3", ALL), ("EG m0", NONE), ("AG m0", NONE), ("m2 and m3", [1, 2]), ("m0 or m3", [2, 0, 2]),
            ("m0 EU m1", [2, 0, 1]), ("true EU 1 m2", [2, 1, 2]), ("m0 AU m1", [2, 0, 1]),
        ]:
            self.says(text, answer)

    def test_not_and_its_like_take_one_part(self):
        self.says("not m0 and m0", NONE)
        self.says("not ( m0 and m0 )", [2, 1, 2])
        self.says("EX m1 EU m2", [1, 2])
        self.says("m2 or EX not m2", [2, 0, 2])
        self.says("EX EX m0", [1, 1])

    def test_ends_where_more_is_wanted(self):
        for text in ("", " ", "\n", "(", "( m0", "( m0 and", "( m0 and m1", "not", "EX EX", "m0 and", "m0 EU",
                     "m0 EU 3", "m0 AU", "( ( m0 )", "not ( m0"):
            self.wrong(text, len(text.split()) + 1)

    def test_behind_a_whole_formula(self):
        for text in ("m0 m1", "m0 )", "m0 (", "m0 3", "( m0 ) m1"):
            self.wrong(text, 4 if text[0] == "(" else 2)
        for word in ("and", "or", "EU", "AU", ")", "(", "true", "not", "5", "x"):
            self.wrong("m0 and m1 " + word, 4)
            self.wrong("m0 EU m1 " + word + " m2", 4)
            self.wrong("m0 EU 4 m1 " + word + " m2", 5)

    def test_within_brackets(self):
        self.wrong("( )", 2)
        self.wrong("( m0 m1 )", 3)
        self.wrong("( m0 and m1 and m2 )", 5)
        self.wrong("( m0 ) )", 4)
        self.wrong("( m0 and )", 4)

    def test_the_first_wrong_word_counts(self):
        self.wrong("m0 and x ( y", 3)
        self.wrong("and m0 and", 1)
        self.wrong(") m0", 1)

    def test_k(self):
        for number in range(13):
            expected = [min(number, 2) + 1] + sorted([2, 1, 0][:min(number, 2) + 1])
            self.says("true EU " + str(number) + " m2", expected)
            self.says("true EU " + str(number).zfill(2) + " m2", expected)
        for word in ("13", "14", "20", "99", "000", "012", "100", "-1", "+1", "1x", "x1", "1.", "0x"):
            self.wrong("true EU " + word + " m2", 3)

    def test_k_stands_behind_eu_alone(self):
        self.wrong("true AU 1 m2", 3)
        self.wrong("m0 and 1 m2", 3)
        self.wrong("true EU 1 2 m2", 4)
        self.wrong("true EU 1 13", 4)
        self.wrong("true EU ( 1 m2 )", 4)

    def test_every_short_row_of_words(self):
        alphabet = ("m0", "true", "(", ")", "not", "AX", "and", "EU", "AU", "7", "13")
        rows = [row for count in range(5) for row in itertools.product(alphabet, repeat=count)]
        self.compare(rows)

    def test_long_rows_of_words(self):
        source = random.Random(5)
        alphabet = LEAVES + PREFIXES + ("(", ")", "and", "or", "EU", "AU", "00", "12", "13", "x")
        rows = []
        for turn in range(600):
            row = text_of(random_tree(source, source.randrange(2, 7))).split()
            for change in range(source.randrange(3)):
                place = source.randrange(len(row))
                row[place:place + source.randrange(2)] = [source.choice(alphabet)] * source.randrange(2)
                row = row or ["m1"]
            rows.append(row)
        self.compare(rows)

    def compare(self, rows):
        texts = [" ".join(row) for row in rows]
        kept = [(row, text) for row, text in zip(rows, texts) if len(text) <= 400]
        given = ask_behind([], [holds(text) for row, text in kept])
        for (row, text), answer in zip(kept, given):
            place = wrong_word(row)
            if place > 0:
                self.assertEqual(answer, [-1000 - place], text)
            else:
                self.assertIn(answer, ([0], [-5]), text)


class Depth(TextCase):
    def test_brackets_40_deep(self):
        self.says("(" * 40 + "m0" + ")" * 40, [1, 0])
        self.says("(" * 40 + "m0 or m1" + ")" * 40, [2, 0, 1])

    def test_brackets_41_deep(self):
        self.wrong("(" * 41 + "m0" + ")" * 41, 41)
        self.wrong("(" * 41, 41)
        self.wrong("(" * 199 + "m0" + ")" * 199, 41)
        self.wrong("(" * 400, 41)

    def test_ends_40_deep(self):
        self.wrong("(" * 40, 41)
        self.wrong("(" * 40 + "m0" + ")" * 39, 81)

    def test_words_40_and_41_deep(self):
        self.says("not " * 39 + "m0", [2, 1, 2])
        self.says("not " * 40 + "m0", [-5])
        for word in PREFIXES:
            self.says((word + " ") * 40 + "m0", [-5])
            self.wrong((word + " ") * 41 + "m0", 41)
            self.wrong("(" * 40 + word + " m0" + ")" * 40, 41)
            self.wrong("(" * 40 + "m1 and " + word + " m0" + ")" * 40, 43)
        self.says("(" * 39 + "not m0" + ")" * 39, [2, 1, 2])
        self.wrong("(" * 39 + "not not m0" + ")" * 39, 41)
        self.wrong("(" * 39 + "not ( m0 )" + ")" * 39, 41)

    def test_both_sides_are_equally_deep(self):
        self.says("(" * 39 + "( m0 ) or ( m1 )" + ")" * 39, [2, 0, 1])
        self.says("(" * 39 + "not m0 EU 2 not m1" + ")" * 39, ALL)
        self.wrong("(" * 39 + "( m0 ) or ( ( m1 ) )" + ")" * 39, 45)

    def test_depth_falls_again_behind_a_bracket(self):
        deep = "(" * 39 + "m0" + ")" * 39
        self.says(deep + "or" + deep, [1, 0])
        self.says("(" + deep + "or" + deep + ")or m1", [2, 0, 1])


class Size(TextCase):
    def test_40_and_41(self):
        self.says("not " * 39 + "m0", [2, 1, 2])
        self.says("not " * 38 + "m0", [1, 0])
        self.says("not " * 19 + "m0 and " + "not " * 18 + "m0", NONE)
        self.says("not " * 20 + "m0 and " + "not " * 18 + "m0", [-5])

    def test_brackets_count_for_nothing(self):
        self.says("((" + "not " * 19 + "((m0)))or(((" + "not " * 18 + "m0))))", ALL)
        self.says("((" + "not " * 20 + "((m0)))or(((" + "not " * 18 + "m0))))", [-5])

    def test_what_each_word_counts(self):
        for start, count in [
            ("not ", 1), ("EX ", 1), ("EG ", 1), ("EF ", 2), ("AX ", 3), ("AF ", 3), ("AG ", 4),
            ("m0 and ", 2), ("m1 or ", 2), ("m0 EU ", 2), ("m0 EU 7 ", 2), ("true and ", 2),
        ]:
            rest = "not " * (39 - count) + "m0"
            self.assertEqual(ask([holds(start + rest), holds(start + "not " + rest)]), [[0], [-5]], start)

    def test_au_counts_its_left_side_once_and_its_right_side_three_times(self):
        self.assertEqual(ask([holds("not " * 27 + "m0 AU m1"), holds("not " * 28 + "m0 AU m1")]), [[0], [-5]])
        self.assertEqual(ask([holds("true AU " + "not " * 9 + "m0"), holds("true AU " + "not " * 10 + "m0")]),
                         [[0], [-5]])

    def test_many_au(self):
        self.says("m0 AU(" * 40 + "m1" + ")" * 40, [-5])
        self.says("(" * 40 + "m1" + ")AU m0" * 40, [-5])
        self.wrong("m0 AU(" * 41 + "m1" + ")" * 41, 123)

    def test_of_formulas_of_all_kinds(self):
        source = random.Random(40)
        trees = [random_tree(source, source.randrange(2, 8)) for turn in range(1500)]
        trees = [tree for tree in trees if len(text_of(tree)) <= 400]
        given = ask_behind([], [holds(text_of(tree)) for tree in trees])
        self.assertIn([-5], given)
        self.assertIn([0], given)
        for tree, answer in zip(trees, given):
            self.assertEqual(answer, [-5] if size_of(tree) > 40 else [0], text_of(tree))


class Refusals(TextCase):
    def test_400_and_401_numbers(self):
        self.says("m0" + " " * 398, [1, 0])
        self.says("m0" + " " * 399, [-1])
        self.says(" " * 400, [-1001])
        self.says(" " * 401, [-1])
        self.says("x" * 400, [-1001])
        self.says(" x" * 200, [-1001])
        self.says("m0 and m1" + " x" * 195, [-1004])
        self.says([0] * 998, [-1])

    def test_numbers_that_are_no_bytes(self):
        for number in (SMALLEST, -256, -1, 256, 109 + 256, GREATEST):
            self.says([number], [-1])
            self.says([109, 48, 32, number], [-1])
            self.says([number] + list(b" and"), [-1])

    def test_range_comes_first(self):
        for text in ("x" * 401, [256], [109, 48, -1]):
            self.assertEqual(ask([node(1), holds(text)]), [[0], [-1]])

    def test_no_next_node_comes_ahead_of_the_text(self):
        for text in ("", "m0", "x", "not " * 40 + "m0", "( " * 41):
            self.assertEqual(ask([node(1), holds(text)]), [[0], [-2]])
        self.assertEqual(ask_last(ROUND + [node(0), holds("x")]), [-2])
        self.assertEqual(ask_last(ROUND + [cut(1, 2), holds("true")]), [-2])
        self.assertEqual(ask_last(ROUND + [cut(1, 2), edge(1, 1), holds("true")]), ALL)

    def test_wrong_word_comes_ahead_of_the_size(self):
        self.wrong("not " * 40 + "m0 x", 42)
        self.wrong("not " * 40, 41)
        self.wrong("m0 AU(" * 40 + "m1" + ")" * 39, 161)

    def test_without_nodes(self):
        self.assertEqual(ask([holds("true"), holds("EG true"), holds("x"), holds("not " * 40 + "m0")]),
                         [[0], [0], [-1001], [-5]])

    def test_nothing_changes(self):
        tells = [told(number) for number in range(3)]
        before = ask(ROUND + tells)[-3:]
        for text in ("m0", "x", "", [256], "not " * 40 + "m0", "m0 AU m1"):
            self.assertEqual(ask(ROUND + [holds(text)] + tells)[-3:], before)


if __name__ == "__main__":
    unittest.main()
