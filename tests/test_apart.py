"""Promise 9, apart: the round in which two nodes part, and the formula told of them."""

import unittest

from tests.calling import GREATEST, SMALLEST, apart, ask, ask_last, cut, edge, graph, holds, marks, node, told

# Each but the last with the following one as its next; mark 0 is the last one's alone.
ROW = graph([0] * 11 + [1], [(number, number + 1) for number in range(11)] + [(11, 11)])
OWN = [(number, number) for number in range(12)]
# 0 goes on to 2; 1 goes on to 3, 4, 5 and 6, which all go on to 8, 9, 10 and 11; 2 goes on to 7.
FORTY = graph([4, 4, 0, 0, 0, 0, 0, 1, 0, 0, 0, 3],
              [(0, 2)] + [(1, end) for end in (3, 4, 5, 6)] + [(2, 7)]
              + [(start, end) for start in (3, 4, 5, 6) for end in (8, 9, 10, 11)] + OWN[7:])
# The row with more next nodes, behind and not ahead, so that nodes part in the same rounds by far larger formulas.
WIDE = ROW + [edge(start, end) for start in range(11) for end in (start - 2, start - 1, start) if end >= 0]


class ApartCase(unittest.TestCase):
    def parts(self, calls, first, second, number, text):
        answer = ask_last(calls + [apart(first, second)])
        self.assertEqual(answer[:1], [number], (first, second))
        self.assertEqual(answer[1], len(answer) - 2)
        self.assertEqual(bytes(answer[2:]).decode(), text)
        where = ask_last(calls + [holds(text)])[1:]
        self.assertIn(first, where)
        self.assertNotIn(second, where)

    def refused(self, calls, first, second, number):
        self.assertEqual(ask_last(calls + [apart(first, second)]), [number], (first, second))


class RoundZero(ApartCase):
    def test_least_mark_that_just_one_has(self):
        for first in range(16):
            for second in range(16):
                if first != second:
                    least = min(mark for mark in range(4) if (first ^ second) >> mark & 1)
                    text = ("m" if first >> least & 1 else "not m") + str(least)
                    self.parts(graph([first, second], OWN[:2]), 0, 1, 0, text)

    def test_next_nodes_do_not_matter(self):
        self.parts(graph([0, 8, 1], [(0, 2), (1, 1), (2, 0)]), 1, 0, 0, "m3")
        self.parts(graph([0, 8, 1], [(0, 2), (1, 1), (2, 0)]), 0, 1, 0, "not m3")


class LaterRounds(ApartCase):
    def test_one_next_node_each(self):
        calls = graph([0, 0, 1, 2], [(0, 2), (1, 3), (2, 2), (3, 3)])
        self.parts(calls, 0, 1, 1, "EX m0")
        self.parts(calls, 1, 0, 1, "EX not m0")

    def test_the_other_one_has_more(self):
        calls = graph([0, 0, 1, 2], [(0, 2), (1, 3), (1, 2), (2, 2), (3, 3)])
        self.parts(calls, 0, 1, 1, "not EX not m0")
        self.parts(calls, 1, 0, 1, "EX not m0")

    def test_both_have_one_alone(self):
        calls = graph([0, 0, 1, 2, 4], [(0, 2), (0, 4), (1, 3), (1, 4)] + OWN[2:5])
        self.parts(calls, 0, 1, 1, "EX ( m0 and m0 )")
        self.parts(calls, 1, 0, 1, "EX ( not m0 and m1 )")

    def test_several_joined_in_rising_order(self):
        calls = graph([0, 0, 8, 9, 4, 2, 0], [(0, 2), (1, 6), (1, 5), (1, 4), (1, 3)] + OWN[2:7])
        self.parts(calls, 0, 1, 1, "EX ( not m0 and ( not m2 and ( not m1 and m3 ) ) )")
        self.parts(calls, 1, 0, 1, "EX m0")
        calls = graph([0, 0, 8, 9, 4, 2], [(0, 2), (1, 5), (1, 4), (1, 3)] + OWN[2:6])
        self.parts(calls, 0, 1, 1, "EX ( not m0 and ( not m2 and not m1 ) )")

    def test_several_joined_in_the_other_case(self):
        calls = graph([0, 0, 1, 2, 4, 8], [(0, 2), (0, 3), (0, 5), (1, 2), (1, 3), (1, 4), (1, 5)] + OWN[2:6])
        self.parts(calls, 0, 1, 1, "not EX ( not m0 and ( not m1 and m2 ) )")
        self.parts(calls, 1, 0, 1, "EX ( not m0 and ( not m1 and m2 ) )")

    def test_alike_ones_are_joined_each_time(self):
        calls = graph([0, 0, 1, 2, 2], [(0, 2), (1, 3), (1, 4)] + OWN[2:5])
        self.parts(calls, 0, 1, 1, "EX ( m0 and m0 )")
        self.parts(calls, 1, 0, 1, "EX not m0")

    def test_least_of_several_that_are_alone(self):
        calls = graph([0, 0, 1, 2, 4, 8], [(0, 5), (0, 4), (0, 3), (1, 2)] + OWN[2:6])
        self.parts(calls, 0, 1, 1, "EX not m0")
        calls = graph([0, 0, 1, 2, 4, 8], [(0, 5), (0, 4), (0, 3), (0, 2), (1, 2)] + OWN[2:6])
        self.parts(calls, 1, 0, 1, "not EX not m0")
        calls = graph([0, 0, 9, 10, 12, 8], [(0, 5), (0, 4), (0, 3), (0, 2), (1, 3)] + OWN[2:6])
        self.parts(calls, 0, 1, 1, "EX m0")
        self.parts(calls, 1, 0, 1, "not EX m0")

    def test_classes_of_the_round_before_and_not_of_the_last(self):
        # 0 and 1 part in round 1; 2 and 3 are still in one class in round 0, though not at last.
        calls = graph([0, 0, 1, 1, 2, 4], [(0, 2), (0, 4), (1, 3), (2, 2), (3, 5), (4, 4), (5, 5)])
        self.parts(calls, 0, 1, 1, "EX not m0")
        self.parts(calls, 1, 0, 1, "not EX not m0")

    def test_own_next_nodes(self):
        calls = graph([0, 0, 1], [(0, 0), (1, 0), (1, 2), (2, 1)])
        self.parts(calls, 0, 1, 1, "not EX m0")
        self.parts(calls, 1, 0, 1, "EX m0")

    def test_both_cases_within_one(self):
        calls = graph([0, 0, 0, 0, 1, 2], [(0, 2), (1, 3), (2, 4), (3, 4), (3, 5), (4, 4), (5, 5)])
        self.parts(calls, 0, 1, 2, "EX not EX not m0")
        self.parts(calls, 1, 0, 2, "EX EX not m0")

    def test_rounds_in_a_row(self):
        for later in range(6, 12):
            for former in range(later):
                number = 11 - later
                self.parts(ROW, later, former, number, "EX " * number + "m0")
                self.parts(ROW, former, later, number, "EX " * number + "not m0")

    def test_later_than_round_5(self):
        for later in range(1, 6):
            for former in range(later):
                self.refused(ROW, later, former, -6)
                self.refused(ROW, former, later, -6)

    def test_the_graph_as_it_is_now(self):
        self.parts(ROW + [marks(2, 1)], 1, 0, 1, "EX m0")
        self.parts(ROW + [edge(0, 11)], 0, 4, 1, "EX m0")


class Size(ApartCase):
    PART = "EX ( m0 and ( m0 and ( m0 and not m1 ) ) )"

    def test_forty(self):
        self.parts(FORTY, 2, 3, 1, self.PART)
        self.parts(FORTY, 0, 1, 2, f"EX ( {self.PART} and ( {self.PART} and ( {self.PART} and {self.PART} ) ) )")

    def test_forty_one(self):
        more = FORTY + [cut(6, 10), edge(6, 1), marks(0, 7), marks(1, 7)]
        self.parts(more, 2, 6, 1, "EX ( not m1 and ( m0 and ( m0 and not m1 ) ) )")
        self.refused(more, 0, 1, -5)
        self.parts(more, 1, 0, 2, "EX EX not m0")

    def test_far_above_forty(self):
        self.refused(WIDE, 7, 6, -5)
        self.refused(WIDE, 6, 7, -5)

    def test_round_comes_ahead_of_the_size(self):
        self.refused(WIDE, 5, 4, -6)
        self.refused(WIDE, 4, 5, -6)

    def test_many_times(self):
        self.assertEqual(ask(WIDE + [apart(7, 6)] * 300)[-300:], [[-5]] * 300)


class Refusals(ApartCase):
    def test_argument_out_of_range(self):
        for number in (SMALLEST, -1, 12, GREATEST):
            for first, second in ((number, 0), (0, number), (number, number), (number, 11), (11, number)):
                self.refused([], first, second, -1)
                self.refused([node(0)], first, second, -1)
                self.refused(ROW, first, second, -1)

    def test_no_next_node(self):
        for first, second in ((0, 1), (0, 0), (0, 2), (11, 11)):
            self.refused([node(0), node(1), edge(0, 0)], first, second, -2)
        self.refused(ROW + [cut(11, 11)], 0, 1, -2)

    def test_node_not_there(self):
        for first, second in ((0, 2), (2, 0), (2, 2), (11, 0), (0, 11), (11, 11), (5, 6)):
            self.refused(graph([0, 1], OWN[:2]), first, second, -3)

    def test_without_nodes(self):
        self.refused([], 0, 0, -3)
        self.refused([], 0, 11, -3)

    def test_in_one_class(self):
        for number in range(12):
            self.refused(ROW, number, number, -4)
        calls = graph([1, 2, 1, 2, 1, 2], [(0, 1), (1, 0), (2, 3), (3, 4), (4, 5), (5, 2)])
        for first, second in ((0, 2), (0, 4), (4, 0), (2, 4), (1, 3), (5, 1)):
            self.refused(calls, first, second, -4)

    def test_nothing_changes(self):
        tells = [told(number) for number in range(12)]
        before = ask(ROW + tells)[-12:]
        for call in (apart(11, 0), apart(6, 5), apart(5, 4), apart(3, 3), apart(12, 0)):
            self.assertEqual(ask(ROW + [call] + tells)[-12:], before)
            self.assertEqual(*ask(ROW + [call, call])[-2:])


if __name__ == "__main__":
    unittest.main()
