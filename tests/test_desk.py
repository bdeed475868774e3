"""The interface: how calls are handed in, answers given back, and that nothing is kept or changed."""

import unittest

import cancome.desk
from tests.calling import apart, classes, cut, edge, form, holds, marks, node, quotient, same, shows, taken_apart, told

CALLS = [
    node(1), node(16), node(2), edge(0, 1), edge(0, 1), edge(1, 0), edge(2, 0), told(0), holds("EX m1"),
    holds("EX"), holds([256]), cut(0, 1), cut(0, 1), holds("true"), marks(1, 12), marks(2, 0), told(1), told(9),
]
FLAT = [number for call in CALLS for number in call]
EXPECTED = [
    1, 0, 1, -1, 1, 1, 1, 0, 1, -5, 1, 0, 1, -3, 3, 1, 1, 1, 2, 1, 0,
    1, -1002, 1, -1, 1, 0, 1, -5, 1, -2, 1, 0, 1, -3, 3, 12, 1, 0, 1, -3,
]
ALL_CALLS = [
    form("m0"), classes(), node(1), quotient(), node(0), shows(0, "m0"), node(0), edge(0, 1), edge(1, 2), edge(2, 2),
    edge(2, 0), shows(0, "EF EX m0"), told(2), shows(1, "EG not m0"), shows(0, "m0"), shows(0, "EX m0"),
    classes(), holds("EX m0"), quotient(), apart(1, 2), apart(2, 1), apart(1, 1), apart(0, 3), same("m0", "EX EX m0"),
    same("x", "y"), same("m0", "m0 m0"), form("AX m1"), form("m0 EU 07 m1"), form("m0 m1"), marks(1, 1), cut(2, 2),
    told(1), classes(), shows(12, ""), same([], [300]), holds("m0"), node(0), classes(), holds("m0"), apart(0, 1),
]
FLAT_ALL = [number for call in ALL_CALLS for number in call]
EXPECTED_ALL = [
    [2, 109, 48], [0], [0], [-2], [1], [-2], [2], [0], [0], [0], [0], [0, -1, 3, 0, 1, 2], [0, 2, 0, 2],
    [0, 1, 2, 1, 2], [-6], [-4], [3, 0, 1, 2], [1, 2], [3, 1, 1, 1, 0, 1, 2, 0, 2, 0, 2],
    [1, 9] + list(b"not EX m0"), [1, 5] + list(b"EX m0"), [-4], [-3], [3, 0, 1, 2], [-1001], [-2002],
    [13] + list(b"not EX not m1"), [14] + list(b"( m0 EU 7 m1 )"), [-1002], [0], [0], [1, 1, 2], [3, 0, 1, 2], [-1],
    [-1], [2, 0, 1], [3], [-2], [-2], [-2],
]
FLAT_EXPECTED_ALL = [number for answer in EXPECTED_ALL for number in [len(answer)] + answer]


class Watched(list):
    """A list that tells of each try to change it."""

    def refuse(self, *arguments, **named):
        raise AssertionError("the list that was handed in is changed")

    __setitem__ = __delitem__ = __iadd__ = __imul__ = refuse
    append = extend = insert = pop = remove = reverse = sort = clear = refuse


class Desk(unittest.TestCase):
    def test_counts_stand_before_answers(self):
        self.assertEqual(cancome.desk.answers(list(FLAT)), EXPECTED)

    def test_all_calls_in_one_list(self):
        self.assertEqual(taken_apart(cancome.desk.answers(list(FLAT_ALL))), EXPECTED_ALL)
        self.assertEqual(cancome.desk.answers(list(FLAT_ALL)), FLAT_EXPECTED_ALL)

    def test_one_call(self):
        for calls, expected in [
            ([0, 15], [1, 0]), ([4, 0], [1, -3]), ([5, 0], [1, -1001]), ([6, 0, 0], [1, -3]), ([7, 0], [1, -1001]),
            ([8], [1, 0]), ([9, 0, 0], [1, -3]), ([10], [1, 0]), ([11, 0, 0], [1, -1001]),
            ([11, 2, 109, 48, 0], [1, -2001]),
        ]:
            self.assertEqual(cancome.desk.answers(calls), expected, calls)

    def test_what_is_handed_in_stays(self):
        for flat in (FLAT, FLAT_ALL):
            handed = list(flat)
            cancome.desk.answers(handed)
            self.assertEqual(handed, flat)

    def test_what_is_handed_in_is_never_changed(self):
        self.assertEqual(cancome.desk.answers(Watched(FLAT)), EXPECTED)
        self.assertEqual(cancome.desk.answers(Watched(FLAT_ALL)), FLAT_EXPECTED_ALL)

    def test_nothing_is_kept(self):
        first = cancome.desk.answers(FLAT)
        first.append(77)
        self.assertEqual(cancome.desk.answers(FLAT_ALL), FLAT_EXPECTED_ALL)
        self.assertEqual(cancome.desk.answers(FLAT), EXPECTED)
        self.assertEqual(cancome.desk.answers([4, 0]), [1, -3])
        self.assertEqual(cancome.desk.answers([8]), [1, 0])
        self.assertEqual(cancome.desk.answers(FLAT_ALL), FLAT_EXPECTED_ALL)
        self.assertEqual(cancome.desk.answers(FLAT), EXPECTED)

    def test_plain_whole_numbers_in_a_plain_list(self):
        for flat in (FLAT, FLAT_ALL):
            given = cancome.desk.answers(flat)
            self.assertIs(type(given), list)
            self.assertEqual({type(number) for number in given}, {int})

    def test_four_hundred_calls(self):
        calls = [0, 3, 1, 0, 0] + [4, 0] * 398
        self.assertEqual(cancome.desk.answers(calls), [1, 0, 1, 0] + [3, 3, 1, 0] * 398)
        calls = [0, 3, 1, 0, 0] + [8, 10] * 199
        self.assertEqual(cancome.desk.answers(calls), [1, 0, 1, 0] + [2, 1, 0, 4, 1, 3, 1, 0] * 199)

    def test_long_texts_are_passed_over_whole(self):
        start = [0, 1, 1, 0, 0]
        last = [5, 2, 109, 48]
        for call in ([5, 998] + [0] * 998, [6, 0, 997] + [8] * 997, [7, 998] + [8] * 998,
                     [11, 500] + [8] * 500 + [497] + [10] * 497, [11, 0, 997] + [8] * 997, [11, 997] + [8] * 997 + [0]):
            self.assertEqual(cancome.desk.answers(start + call * 15 + last),
                             [1, 0, 1, 0] + [1, -1] * 15 + [2, 1, 0], call[:3])


if __name__ == "__main__":
    unittest.main()
