"""Promise 11, same: where just one of two formulas holds, and which refusal comes first."""

import unittest

from tests.calling import GREATEST, SMALLEST, ask, ask_last, cut, graph, node, same, told

# 0 goes on to 1 and 2; 1 goes back to 0; 2 goes on to 3; 3 is its own next node.
# Mark 0: nodes 0 and 1; mark 1: node 3; mark 2: nodes 0 and 2; mark 3: none.
SMALL = graph([5, 1, 4, 2], [(0, 1), (0, 2), (1, 0), (2, 3), (3, 3)])
FORTY = "not " * 39 + "m0"
TOO_LARGE = "not " * 40 + "m0"


class SameCase(unittest.TestCase):
    def at(self, first, second, nodes):
        for pair in ((first, second), (second, first)):
            self.assertEqual(ask_last(SMALL + [same(*pair)]), [len(nodes)] + nodes, pair)

    def refused(self, first, second, number):
        self.assertEqual(ask_last(SMALL + [same(first, second)]), [number], (first, second))


class Same(SameCase):
    def test_nowhere(self):
        self.at("m0", "m0", [])
        self.at("m0", "( not not m0 )", [])
        self.at("AX m0", "not EX not m0", [])
        self.at("EF m1", "true EU m1", [])
        self.at("m0 EU m1", "m0 EU 12 m1", [])
        self.at("m2 AU m1", "not ( ( not m1 EU ( not m2 and not m1 ) ) or EG not m1 )", [])

    def test_where_just_one_holds(self):
        self.at("m0", "m2", [1, 2])
        self.at("m0", "m1", [0, 1, 3])
        self.at("true", "m3", [0, 1, 2, 3])
        self.at("m0", "not m0", [0, 1, 2, 3])
        self.at("m0", "true", [2, 3])
        self.at("m0", "m3", [0, 1])
        self.at("EG m0", "m0 and m2", [1])
        self.at("true EU 01 m1", "true EU 2 m1", [0])

    def test_twelve_nodes(self):
        row = graph([1] * 11 + [2], [(number, number + 1) for number in range(11)] + [(11, 11)])
        self.assertEqual(ask(row + [same("true EU 0 m1", "true EU 12 m1"), same("EF m1", "true EU 12 m1")])[-2:],
                         [[11] + list(range(11)), [0]])

    def test_own_next_node(self):
        self.assertEqual(ask_last([node(1), [1, 0, 0], same("EG m0", "m1")]), [1, 0])

    def test_without_nodes(self):
        self.assertEqual(ask([same("true", "not true"), same("x", "true"), same("true", ""), same(TOO_LARGE, "m0")]),
                         [[0], [-1001], [-2001], [-5]])


class Refusals(SameCase):
    def test_argument_out_of_range(self):
        for text in (" " * 401, "m0" + " " * 399, [256], [109, 48, -1], [SMALLEST], [GREATEST], [0] * 500):
            for other in ("m0", "x", "", TOO_LARGE):
                self.refused(text, other, -1)
                self.refused(other, text, -1)
            if len(text) <= 498:
                self.refused(text, text, -1)
        self.refused([0] * 997, "", -1)
        self.refused("", [0] * 997, -1)
        self.at("m0" + " " * 398, " " * 398 + "m2", [1, 2])

    def test_no_next_node(self):
        for first, second in (("m0", "m1"), ("x", "m0"), ("m0", "x"), (TOO_LARGE, "x"), ("", "")):
            self.assertEqual(ask_last(SMALL + [node(0), same(first, second)]), [-2])
            self.assertEqual(ask_last(SMALL + [cut(3, 3), same(first, second)]), [-2])
        self.assertEqual(ask_last([node(0), same([256], "m0")]), [-1])
        self.assertEqual(ask_last([node(0), same("m0", [256])]), [-1])

    def test_first_is_wrong(self):
        self.refused("", "m0", -1001)
        self.refused("m0 and", "m0", -1003)
        self.refused("m0 EU 13 m1", "m0", -1003)
        self.refused("(" * 41, "m0", -1041)

    def test_second_is_wrong(self):
        self.refused("m0", "", -2001)
        self.refused("m0", "m0 and", -2003)
        self.refused("m0", "m0 EU 13 m1", -2003)
        self.refused("m0", "(" * 41, -2041)

    def test_both_are_wrong(self):
        self.refused("m0 and", "x", -1003)
        self.refused("x", "m0 and", -1001)
        self.refused("", "", -1001)

    def test_size(self):
        self.at(FORTY, "not " * 37 + "m0", [])
        self.at(FORTY, "m0", [0, 1, 2, 3])
        self.refused(TOO_LARGE, "m0", -5)
        self.refused("m0", TOO_LARGE, -5)
        self.refused(FORTY, TOO_LARGE, -5)
        self.refused(TOO_LARGE, FORTY, -5)
        self.refused(TOO_LARGE, TOO_LARGE, -5)
        self.refused("m0 AU(" * 40 + "m1" + ")" * 40, "m0", -5)

    def test_wrong_words_come_ahead_of_the_size(self):
        self.refused(TOO_LARGE, "m0 m1", -2002)
        self.refused("m0 m1", TOO_LARGE, -1002)
        self.refused(TOO_LARGE + " x", "m0", -1042)
        self.refused("m0", TOO_LARGE + " x", -2042)
        self.refused(TOO_LARGE, TOO_LARGE + " x", -2042)

    def test_nothing_changes(self):
        tells = [told(number) for number in range(4)]
        before = ask(SMALL + tells)[-4:]
        for call in (same("m0", "EG m0"), same("x", "m0"), same("m0", "x"), same(TOO_LARGE, "m0"), same([256], "m0")):
            self.assertEqual(ask(SMALL + [call] + tells)[-4:], before)
            self.assertEqual(*ask(SMALL + [call, call])[-2:])


if __name__ == "__main__":
    unittest.main()
