"""The calls 8 and 10, classes and quotient: nodes that nothing tells apart."""

import unittest

from tests.calling import ask, ask_last, classes, cut, edge, graph, marks, node, quotient, told

# Two rounds of unlike length whose nodes have the marks 1 and 2 in turn, and a node before both.
TWO_ROUNDS = graph([4, 1, 2, 1, 2, 1, 2], [(0, 1), (0, 3), (1, 2), (2, 1), (3, 4), (4, 5), (5, 6), (6, 3)])
# Each but the last with the following one as its next; mark 0 is the last one's alone.
ROW = graph([0] * 11 + [1], [(number, number + 1) for number in range(11)] + [(11, 11)])


def both(calls):
    return ask(calls + [classes(), quotient()])[-2:]


class Classes(unittest.TestCase):
    def test_without_nodes(self):
        self.assertEqual(ask([classes(), quotient()]), [[0], [0]])

    def test_one_node(self):
        self.assertEqual(both([node(9), edge(0, 0)]), [[1, 0], [1, 9, 1, 0]])

    def test_several_nodes_in_one_class(self):
        self.assertEqual(both(TWO_ROUNDS), [[7, 0, 1, 2, 1, 2, 1, 2], [3, 4, 1, 1, 1, 1, 2, 2, 1, 1]])

    def test_all_nodes_in_one_class(self):
        calls = graph([6] * 12, [(number, number * 5 % 12) for number in range(12)] + [(2, 3), (2, 4), (7, 8)])
        self.assertEqual(both(calls), [[12] + [0] * 12, [1, 6, 1, 0]])

    def test_all_nodes_in_classes_of_their_own(self):
        self.assertEqual(ask_last(ROW + [classes()]), [12] + list(range(12)))
        expected = [number for start in range(11) for number in (0, 1, start + 1)]
        self.assertEqual(ask_last(ROW + [quotient()]), [12] + expected + [1, 1, 11])

    def test_twelve_nodes_with_unlike_marks(self):
        calls = graph(range(3, 15), [(number, number) for number in range(12)])
        self.assertEqual(ask_last(calls + [classes()]), [12] + list(range(12)))

    def test_numbered_in_the_order_of_their_least_nodes(self):
        calls = graph([8, 1, 8, 0, 1, 0], [(number, number) for number in range(6)])
        self.assertEqual(both(calls), [[6, 0, 1, 0, 2, 1, 2], [3, 8, 1, 0, 1, 1, 1, 0, 1, 2]])

    def test_a_later_round_numbers_anew(self):
        # The marks say 0 0 1 0 1; the next nodes set 1 apart from 0 and 3.
        calls = graph([0, 0, 5, 0, 5], [(0, 2), (1, 1), (2, 2), (3, 4), (4, 2)])
        self.assertEqual(both(calls), [[5, 0, 1, 2, 0, 2], [3, 0, 1, 2, 0, 1, 1, 5, 1, 2]])

    def test_how_often_a_class_comes_does_not_matter(self):
        calls = graph([0, 0, 1, 1, 1, 2],
                      [(0, 2), (0, 3), (0, 4), (0, 5), (1, 3), (1, 5), (2, 2), (3, 3), (4, 2), (5, 5)])
        self.assertEqual(both(calls), [[6, 0, 0, 1, 1, 1, 2], [3, 0, 2, 1, 2, 1, 1, 1, 2, 1, 2]])

    def test_fewer_classes_ahead_tell_apart(self):
        calls = graph([0, 0, 1, 2], [(0, 2), (0, 3), (1, 3), (2, 2), (3, 3)])
        self.assertEqual(ask_last(calls + [classes()]), [4, 0, 1, 2, 3])

    def test_next_classes_rise(self):
        calls = graph([1, 2, 4], [(0, 2), (0, 1), (0, 0), (1, 2), (1, 0), (2, 1)])
        self.assertEqual(ask_last(calls + [quotient()]), [3, 1, 3, 0, 1, 2, 2, 2, 0, 2, 4, 1, 1])

    def test_own_next_node_and_round_are_alike(self):
        calls = graph([3, 3, 3], [(0, 0), (1, 2), (2, 1)])
        self.assertEqual(both(calls), [[3, 0, 0, 0], [1, 3, 1, 0]])

    def test_the_graph_as_it_is_now(self):
        calls = TWO_ROUNDS + [marks(5, 9)]
        self.assertEqual(ask_last(calls + [classes()]), [7, 0, 1, 2, 3, 4, 5, 6])
        self.assertEqual(both(calls + [marks(5, 1)]), both(TWO_ROUNDS))
        self.assertEqual(ask_last(TWO_ROUNDS + [cut(0, 3), classes()]), [7, 0, 1, 2, 1, 2, 1, 2])


class Refusals(unittest.TestCase):
    def test_no_next_node(self):
        self.assertEqual(both([node(0)]), [[-2], [-2]])
        self.assertEqual(both(TWO_ROUNDS + [node(0)]), [[-2], [-2]])
        self.assertEqual(both(ROW + [cut(4, 5)]), [[-2], [-2]])
        self.assertEqual(both(ROW + [cut(4, 5), edge(4, 5)]), both(ROW))

    def test_nothing_changes(self):
        tells = [told(number) for number in range(7)]
        self.assertEqual(ask(TWO_ROUNDS + [classes(), quotient()] + tells)[-7:], ask(TWO_ROUNDS + tells)[-7:])
        self.assertEqual(ask(TWO_ROUNDS + [classes(), quotient()] * 2)[-4:], both(TWO_ROUNDS) * 2)


if __name__ == "__main__":
    unittest.main()
