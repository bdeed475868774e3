"""Promise 6, shows: the way that is told, and which refusal comes first."""

import unittest

from tests.calling import GREATEST, SMALLEST, ask, ask_last, cut, graph, holds, node, shows, told

# 0 goes on to 1, 2 and 3; 1 and 2 go on to 4; 3 goes back to 0 or stays; 4 goes on to 5; 5 goes to 4 or stays.
# Mark 0: nodes 0 to 4; mark 1: node 5; mark 2: nodes 0 and 3; mark 3: none.
SMALL = graph([5, 1, 1, 5, 1, 2], [(0, 3), (0, 2), (0, 1), (1, 4), (2, 4), (3, 3), (3, 0), (4, 5), (5, 5), (5, 4)])
# Twelve nodes, each but the last with the following one as its next; mark 1 is the last one's alone.
ROW = graph([1] * 11 + [2], [(number, number + 1) for number in range(11)] + [(11, 11)])
TOO_LARGE = "not " * 40 + "m0"


class ShowsCase(unittest.TestCase):
    first = SMALL

    def ends(self, number, text, nodes):
        self.assertEqual(ask_last(self.first + [shows(number, text)]), [0, -1, len(nodes)] + nodes, (number, text))

    def goes_round(self, number, text, place, nodes):
        self.assertEqual(ask_last(self.first + [shows(number, text)]), [0, place, len(nodes)] + nodes, (number, text))

    def refused(self, number, text, answer):
        self.assertEqual(ask_last(self.first + [shows(number, text)]), [answer], (number, text))


class Next(ShowsCase):
    def test_least_next_node_at_which_it_holds(self):
        self.ends(0, "EX true", [0, 1])
        self.ends(0, "EX m0", [0, 1])
        self.ends(0, "EX m2", [0, 3])
        self.ends(0, "EX not EX m2", [0, 1])
        self.ends(4, "EX m1", [4, 5])

    def test_own_next_node(self):
        self.ends(3, "EX m2", [3, 0])
        self.ends(5, "EX m1", [5, 5])
        self.ends(3, "EX EX EX EX m1", [3, 0])
        self.ends(3, "EX AX m2", [3, 3])

    def test_within_brackets(self):
        self.ends(0, "( ( EX ( m2 ) ) )", [0, 3])


class Until(ShowsCase):
    def test_this_node_alone(self):
        self.ends(5, "m0 EU m1", [5])
        self.ends(0, "m3 EU m0", [0])
        self.ends(3, "true EU true", [3])
        self.ends(0, "m0 EU 0 m2", [0])
        self.ends(0, "m0 EU 12 m2", [0])

    def test_of_several_with_the_fewest_steps_the_one_with_the_least_nodes(self):
        self.ends(0, "m0 EU m1", [0, 1, 4, 5])
        self.ends(3, "m0 EU m1", [3, 0, 1, 4, 5])
        self.ends(0, "true EU ( m0 and not m2 )", [0, 1])

    def test_fewer_steps_come_ahead_of_lesser_nodes(self):
        self.ends(0, "true EU AX m2", [0, 3])
        calls = graph([1, 1, 1, 2], [(0, 1), (0, 2), (1, 2), (2, 3), (3, 3)])
        self.assertEqual(ask_last(calls + [shows(0, "m0 EU m1")]), [0, -1, 3, 0, 2, 3])

    def test_all_nodes_before_the_last_one_count(self):
        calls = graph([1, 0, 1, 3, 2], [(0, 1), (0, 2), (1, 4), (2, 3), (3, 4), (4, 4)])
        for text, nodes in [
            ("m0 EU m1", [0, 2, 3]), ("true EU m1", [0, 1, 4]), ("m0 EU AX m1", [0, 1]),
            ("m0 EU ( m1 and not m0 )", [0, 2, 3, 4]), ("true EU ( m1 and not m0 )", [0, 1, 4]),
        ]:
            self.assertEqual(ask_last(calls + [shows(0, text)]), [0, -1, len(nodes)] + nodes, text)

    def test_at_most_k_steps(self):
        for bound in ("3", "03", "4", "12"):
            self.ends(0, "m0 EU " + bound + " m1", [0, 1, 4, 5])
        for bound in ("0", "00", "1", "2", "02"):
            self.refused(0, "m0 EU " + bound + " m1", -4)

    def test_written_out_only(self):
        self.ends(0, "EF m1", [0, 1, 4, 5])
        self.ends(3, "( EF ( m1 ) )", [3, 0, 1, 4, 5])
        self.ends(5, "EF m1", [5])
        self.ends(4, "EF EX m1", [4])


class LongRow(ShowsCase):
    first = ROW

    def test_through_twelve_nodes(self):
        for text in ("m0 EU m1", "m0 EU 11 m1", "m0 EU 12 m1", "EF m1"):
            self.ends(0, text, list(range(12)))
        self.refused(0, "m0 EU 10 m1", -4)
        self.ends(1, "m0 EU 10 m1", list(range(1, 12)))
        self.goes_round(0, "EG true", 11, list(range(12)))
        self.goes_round(11, "EG m1", 0, [11])

    def test_the_last_one_goes_on_to_the_first(self):
        whole_round = graph([1] * 12, [(number, (number + 1) % 12) for number in range(12)])
        self.assertEqual(ask_last(whole_round + [shows(5, "EG m0")]), [0, 0, 12, 5, 6, 7, 8, 9, 10, 11, 0, 1, 2, 3, 4])


class ForEver(ShowsCase):
    def test_at_its_first_node(self):
        self.goes_round(3, "EG m2", 0, [3, 0])
        self.goes_round(5, "EG m1", 0, [5])
        self.goes_round(4, "EG true", 0, [4, 5])

    def test_at_a_later_node(self):
        self.goes_round(0, "EG true", 2, [0, 1, 4, 5])
        self.goes_round(3, "EG true", 3, [3, 0, 1, 4, 5])

    def test_passes_over_nodes_at_which_it_does_not_hold_for_ever(self):
        self.goes_round(0, "EG m0", 0, [0, 3])
        self.goes_round(0, "EG m2", 0, [0, 3])
        self.goes_round(3, "EG m0", 0, [3, 0])
        self.goes_round(4, "EG ( m1 or EX m1 )", 0, [4, 5])

    def test_at_the_node_itself(self):
        calls = graph([1, 1, 0], [(0, 1), (1, 1), (1, 2), (2, 0)])
        self.assertEqual(ask_last(calls + [shows(0, "EG m0")]), [0, 1, 2, 0, 1])


class Refusals(ShowsCase):
    def test_argument_out_of_range(self):
        for number in (SMALLEST, -1, 12, GREATEST):
            for text in ("EX true", "x", "y" * 401):
                self.refused(number, text, -1)
        for text in (" " * 401, [256], [109, 48, -1], [0] * 997, "EX true" + " " * 394, [GREATEST], [SMALLEST]):
            self.refused(0, text, -1)
            self.refused(11, text, -1)
        self.ends(0, "EX true" + " " * 393, [0, 1])

    def test_range_comes_first(self):
        self.assertEqual(ask([node(0), shows(12, "x"), shows(5, [256]), shows(0, [256])])[1:], [[-1]] * 3)

    def test_no_next_node(self):
        for number in (0, 1, 6, 11):
            for text in ("EX true", "x", TOO_LARGE, "not true", "m0"):
                self.assertEqual(ask_last(SMALL + [node(0), shows(number, text)]), [-2])
        self.assertEqual(ask_last(ROW + [cut(11, 11), shows(0, "EX true")]), [-2])

    def test_node_not_there(self):
        for number in (6, 11):
            for text in ("EX true", "x", "", TOO_LARGE, "not true", "m0"):
                self.refused(number, text, -3)

    def test_without_nodes(self):
        for text in ("EX true", "x", "", TOO_LARGE):
            self.assertEqual(ask([shows(0, text), shows(11, text), shows(12, text)]), [[-3], [-3], [-1]])

    def test_wrong_word(self):
        self.refused(0, "", -1001)
        self.refused(0, "EX", -1002)
        self.refused(0, "m0 EU 13 m1", -1003)
        self.refused(0, "EX m0 m1", -1003)
        self.refused(0, TOO_LARGE + " )", -1042)
        self.refused(0, "(" * 41, -1041)
        self.refused(0, "not true )", -1003)

    def test_size(self):
        self.ends(0, "EX " + "not " * 38 + "m0", [0, 1])
        self.refused(0, "EX " + "not " * 39 + "m0", -5)
        self.refused(0, "not " * 39 + "m0", -4)
        self.refused(0, "not " * 38 + "m0", -6)
        self.refused(0, TOO_LARGE, -5)
        self.refused(0, "m0 AU(" * 40 + "m1" + ")" * 40, -5)

    def test_does_not_hold(self):
        self.refused(0, "EX m1", -4)
        self.refused(1, "EX m2", -4)
        self.refused(1, "EG m0", -4)
        self.refused(1, "EF m2", -4)
        self.refused(0, "m2 EU m1", -4)
        self.refused(0, "m1", -4)
        self.refused(0, "not m0", -4)
        self.refused(0, "m0 and m1", -4)
        self.refused(0, "AF m1", -4)

    def test_none_of_the_four_kinds(self):
        for text in ("true", "m0", "not m1", "m0 and m2", "m1 or m0", "AX m0", "not EX m1", "not not EX m0",
                     "EX m0 and EX m2", "EX m0 or EX m1", "( m0 )", "AG EF m0"):
            self.refused(0, text, -6)
        for text in ("AX m0", "AF m1", "AG ( m0 or m1 )", "m0 AU m1", "not EG m0"):
            self.refused(1, text, -6)

    def test_nothing_changes(self):
        tells = [told(number) for number in range(6)] + [holds("EG m0")]
        before = ask(SMALL + tells)[-7:]
        for call in (shows(0, "EG true"), shows(0, "m0 EU m1"), shows(0, "EX m0"), shows(7, "m0"), shows(0, "x")):
            self.assertEqual(ask(SMALL + [call] + tells)[-7:], before)
            self.assertEqual(*ask(SMALL + [call, call])[-2:])


if __name__ == "__main__":
    unittest.main()
