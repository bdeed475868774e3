"""Promises 0 to 4: node, edge, cut, marks, told."""

import unittest

from tests.calling import GREATEST, SMALLEST, ask, ask_last, cut, edge, graph, marks, node, told

TWELVE = [node(number) for number in range(12)]
FAR_OUT = [SMALLEST, -1, GREATEST]


class Node(unittest.TestCase):
    def test_numbers_rise_from_0_to_11(self):
        self.assertEqual(ask(TWELVE), [[number] for number in range(12)])

    def test_has_its_marks_and_no_next_nodes(self):
        for number in range(16):
            self.assertEqual(ask([node(number), told(0)]), [[0], [number, 0]])

    def test_marks_out_of_range(self):
        for number in FAR_OUT + [16]:
            self.assertEqual(ask([node(number), told(0), node(1)]), [[-1], [-3], [0]])

    def test_no_thirteenth(self):
        self.assertEqual(ask(TWELVE + [node(3), node(0)] + [told(11)])[12:], [[-4], [-4], [11, 0]])

    def test_range_comes_ahead_of_too_many(self):
        self.assertEqual(ask_last(TWELVE + [node(16)]), [-1])


class Edge(unittest.TestCase):
    def test_next_nodes_are_told_rising(self):
        calls = graph([5, 0, 0, 0], [(0, 3), (0, 1), (0, 2), (0, 0), (2, 1)])
        self.assertEqual(ask(calls)[4:], [[0]] * 5)
        self.assertEqual(ask(calls + [told(number) for number in range(4)])[9:],
                         [[5, 4, 0, 1, 2, 3], [0, 0], [0, 1, 1], [0, 0]])

    def test_own_next_node(self):
        self.assertEqual(ask([node(2), edge(0, 0), told(0)]), [[0], [0], [2, 1, 0]])

    def test_argument_out_of_range(self):
        for number in FAR_OUT + [12]:
            for call in (edge(number, 0), edge(0, number), edge(number, number), edge(number, 7), edge(7, number)):
                self.assertEqual(ask([node(0), call, told(0)]), [[0], [-1], [0, 0]])

    def test_node_not_there(self):
        for call in (edge(0, 1), edge(1, 0), edge(11, 11), edge(11, 0), edge(0, 11)):
            self.assertEqual(ask([node(0), call, node(0), told(0), told(1)]), [[0], [-3], [1], [0, 0], [0, 0]])
        self.assertEqual(ask([edge(0, 0)]), [[-3]])

    def test_no_next_node_twice(self):
        self.assertEqual(ask([node(0), node(0), edge(0, 1), edge(0, 1), told(0), edge(1, 0)])[3:],
                         [[-5], [0, 1, 1], [0]])

    def test_at_most_four(self):
        four = TWELVE + [edge(11, end) for end in (9, 0, 11, 4)]
        self.assertEqual(ask(four + [edge(11, 5), told(11), edge(10, 5)])[16:],
                         [[-6], [11, 4, 0, 4, 9, 11], [0]])

    def test_node_not_there_comes_ahead_of_four(self):
        four = graph([0] * 4, [(0, end) for end in range(4)])
        self.assertEqual(ask_last(four + [edge(0, 4)]), [-3])

    def test_twice_comes_ahead_of_four(self):
        four = graph([0] * 5, [(0, end) for end in range(4)])
        self.assertEqual(ask(four + [edge(0, 2), edge(0, 4), told(0)])[-3:], [[-5], [-6], [0, 4, 0, 1, 2, 3]])


class Cut(unittest.TestCase):
    def test_takes_just_this_one_away(self):
        calls = graph([0] * 3, [(0, 2), (0, 1), (1, 0), (2, 1)])
        self.assertEqual(ask(calls + [cut(0, 1)] + [told(number) for number in range(3)])[7:],
                         [[0], [0, 1, 2], [0, 1, 0], [0, 1, 1]])

    def test_makes_room_for_another(self):
        four = graph([0] * 5, [(0, end) for end in range(4)])
        self.assertEqual(ask(four + [cut(0, 1), edge(0, 4), told(0), edge(0, 1)])[-4:],
                         [[0], [0], [0, 4, 0, 2, 3, 4], [-6]])

    def test_own_next_node(self):
        self.assertEqual(ask([node(1), edge(0, 0), cut(0, 0), told(0), cut(0, 0)])[2:], [[0], [1, 0], [-5]])

    def test_argument_out_of_range(self):
        for number in FAR_OUT + [12]:
            for call in (cut(number, 0), cut(0, number), cut(number, 7), cut(7, number)):
                self.assertEqual(ask([node(0), edge(0, 0), call, told(0)])[2:], [[-1], [0, 1, 0]])

    def test_node_not_there(self):
        for call in (cut(0, 1), cut(1, 0), cut(11, 11), cut(0, 11)):
            self.assertEqual(ask([node(0), edge(0, 0), call, told(0)])[2:], [[-3], [0, 1, 0]])
        self.assertEqual(ask([cut(0, 0)]), [[-3]])

    def test_not_a_next_node(self):
        self.assertEqual(ask([node(0), node(0), edge(0, 1), cut(1, 0), cut(0, 0), told(0)])[3:],
                         [[-5], [-5], [0, 1, 1]])


class Marks(unittest.TestCase):
    def test_are_these_from_now_on(self):
        calls = graph([3, 9], [(0, 1), (1, 1)])
        for number in range(16):
            self.assertEqual(ask(calls + [marks(0, number), told(0), told(1)])[4:],
                             [[0], [number, 1, 1], [9, 1, 1]])

    def test_argument_out_of_range(self):
        calls = [marks(number, 0) for number in FAR_OUT + [12]]
        calls += [marks(0, number) for number in FAR_OUT + [16]]
        calls += [marks(5, 16), marks(12, 16)]
        for call in calls:
            self.assertEqual(ask([node(7), call, told(0)]), [[0], [-1], [7, 0]])

    def test_node_not_there(self):
        self.assertEqual(ask([marks(0, 0), node(7), marks(1, 3), marks(11, 15), told(0)]),
                         [[-3], [0], [-3], [-3], [7, 0]])


class Told(unittest.TestCase):
    def test_changes_nothing(self):
        self.assertEqual(ask([node(6), edge(0, 0), told(0), told(0)])[2:], [[6, 1, 0], [6, 1, 0]])

    def test_argument_out_of_range(self):
        for number in FAR_OUT + [12]:
            self.assertEqual(ask([told(number), node(0), told(number)]), [[-1], [0], [-1]])

    def test_node_not_there(self):
        self.assertEqual(ask([told(0), node(0), told(1), told(11), told(0)]), [[-3], [0], [-3], [-3], [0, 0]])


if __name__ == "__main__":
    unittest.main()
