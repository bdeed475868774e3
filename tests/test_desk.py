"""The interface: how calls are handed in, answers given back, and that nothing is kept or changed."""

import unittest

import cancome.desk
from tests.calling import cut, edge, holds, marks, node, told

CALLS = [
    node(1), node(16), node(2), edge(0, 1), edge(0, 1), edge(1, 0), edge(2, 0), told(0), holds("EX m1"),
    holds("EX"), holds([256]), cut(0, 1), cut(0, 1), holds("true"), marks(1, 12), marks(2, 0), told(1), told(9),
]
FLAT = [number for call in CALLS for number in call]
EXPECTED = [
    1, 0, 1, -1, 1, 1, 1, 0, 1, -5, 1, 0, 1, -3, 3, 1, 1, 1, 2, 1, 0,
    1, -1002, 1, -1, 1, 0, 1, -5, 1, -2, 1, 0, 1, -3, 3, 12, 1, 0, 1, -3,
]


class Watched(list):
    """A list that tells of each try to change it."""

    def refuse(self, *arguments, **named):
        raise AssertionError("the list that was handed in is changed")

    __setitem__ = __delitem__ = __iadd__ = __imul__ = refuse
    append = extend = insert = pop = remove = reverse = sort = clear = refuse


class Desk(unittest.TestCase):
    def test_counts_stand_before_answers(self):
        self.assertEqual(cancome.desk.answers(list(FLAT)), EXPECTED)

    def test_one_call(self):
        self.assertEqual(cancome.desk.answers([0, 15]), [1, 0])
        self.assertEqual(cancome.desk.answers([4, 0]), [1, -3])
        self.assertEqual(cancome.desk.answers([5, 0]), [1, -1001])

    def test_what_is_handed_in_stays(self):
        handed = list(FLAT)
        cancome.desk.answers(handed)
        self.assertEqual(handed, FLAT)

    def test_what_is_handed_in_is_never_changed(self):
        self.assertEqual(cancome.desk.answers(Watched(FLAT)), EXPECTED)

    def test_nothing_is_kept(self):
        first = cancome.desk.answers(FLAT)
        first.append(77)
        self.assertEqual(cancome.desk.answers(FLAT), EXPECTED)
        self.assertEqual(cancome.desk.answers([4, 0]), [1, -3])
        self.assertEqual(cancome.desk.answers(FLAT), EXPECTED)

    def test_plain_whole_numbers_in_a_plain_list(self):
        given = cancome.desk.answers(FLAT)
        self.assertIs(type(given), list)
        self.assertEqual({type(number) for number in given}, {int})

    def test_four_hundred_calls(self):
        calls = [0, 3, 1, 0, 0] + [4, 0] * 398
        self.assertEqual(cancome.desk.answers(calls), [1, 0, 1, 0] + [3, 3, 1, 0] * 398)

    def test_long_texts_are_passed_over_whole(self):
        calls = [0, 1, 1, 0, 0] + ([5, 998] + [0] * 998) * 15 + [5, 2, 109, 48]
        self.assertEqual(cancome.desk.answers(calls), [1, 0, 1, 0] + [1, -1] * 15 + [2, 1, 0])


if __name__ == "__main__":
    unittest.main()
