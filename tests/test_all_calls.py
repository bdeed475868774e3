"""All calls together, on many graphs, against the model; and that none disturbs another."""

import random
import unittest

from tests.calling import GREATEST, SMALLEST, ask
from tests.model import Model, handed_in
from tests.reference import random_tree, text_of

WRONG_NUMBERS = (SMALLEST, -1, 12, 16, GREATEST)
WRONG_WORDS = ("x", "13", "012", ")", "and", "EU", "AU", "(", "not", "7")


def random_text(source):
    words = text_of(random_tree(source, source.choice((1, 2, 2, 3, 3, 4, 6)))).split()
    if source.randrange(6) == 0:
        words.insert(source.randrange(len(words) + 1), source.choice(WRONG_WORDS))
    if source.randrange(12) == 0:
        words = words[:-1]
    if source.randrange(4) == 0:
        words = ["("] + words + [")"]
    text = source.choice((" ", " ", "\n", "  ")).join(words).encode()[:400]
    if source.randrange(30) == 0:
        return tuple(text) + (source.choice((-1, 256, 400)),)
    return tuple(text)


def random_node(source, count):
    if source.randrange(40) == 0:
        return source.choice(WRONG_NUMBERS)
    return source.randrange(min(12, count + (source.randrange(15) == 0)))


def random_marks(source):
    if source.randrange(40) == 0:
        return source.choice(WRONG_NUMBERS)
    return source.choice((0, 0, 0, 1, 1, 2, 15, source.randrange(16)))


def random_call(source, count):
    number = source.choice((0, 1, 2, 3, 4, 5, 5, 6, 6, 6, 6, 6, 7, 7, 8, 8, 9, 9, 9, 9, 9, 10, 10, 11, 11))
    if number == 0:
        return (0, random_marks(source))
    if number == 3:
        return (3, random_node(source, count), random_marks(source))
    if number in (4, 6):
        more = (random_text(source),) if number == 6 else ()
        return (number, random_node(source, count)) + more
    if number in (1, 2, 9):
        return (number, random_node(source, count), random_node(source, count))
    return (number,) + tuple(random_text(source) for text in range({8: 0, 10: 0, 11: 2}.get(number, 1)))


def random_graph(source, count):
    """The calls that make a graph: now by chance, now a row, now one whose nodes are mostly alike."""
    way = source.randrange(3)
    calls = [(0, source.choice((0, 0, 1)) if way < 2 else number // 10) for number in range(count)]
    for start in range(count):
        if way == 0:
            ends = source.sample(range(count), min(count, source.choice((1, 1, 2, 2, 3, 4))))
        else:
            ends = [min(start + 1, count - 1)]
            ends += [end for end in source.sample(range(count), 1) if source.randrange(3) == 0 and end not in ends]
        calls += [(1, start, end) for end in ends]
    return calls


class AgainstModel(unittest.TestCase):
    def check(self, calls):
        model = Model()
        expected = [model.answer(call) for call in calls]
        given = ask([handed_in(call) for call in calls])
        self.assertEqual(len(given), len(expected))
        for place, call in enumerate(calls):
            self.assertEqual(given[place], expected[place], calls[:place + 1])
        return given

    def test_many_lists_of_calls(self):
        source = random.Random(2026)
        seen = set()
        for turn in range(150):
            count = source.choice((0, 1, 2, 3, 4, 5, 6, 7, 8, 9, 12, 12))
            calls = random_graph(source, count) + [random_call(source, max(count, 1)) for more in range(40)]
            for call, answer in zip(calls, self.check(calls)):
                seen.add((call[0], answer[0] if answer[0] > -1000 else answer[0] // 1000))
        for number, refusals in [(5, "-1 -2 -5"), (6, "-1 -2 -3 -4 -5 -6"), (7, "-1 -5"), (8, "-2"),
                                 (9, "-1 -2 -3 -4 -6"), (10, "-2"), (11, "-1 -2 -5 -3")]:
            for refusal in refusals.split():
                self.assertIn((number, int(refusal)), seen)

    def test_apart_of_all_pairs(self):
        source = random.Random(9)
        seen = set()
        for turn in range(60):
            count = source.choice((4, 7, 10, 12, 12))
            calls = random_graph(source, count) + [(8,), (10,)]
            calls += [(9, here, there) for here in range(count) for there in range(count)]
            seen |= {answer[0] for call, answer in zip(calls, self.check(calls)) if call[0] == 9}
        self.assertTrue(seen >= {-6, -5, -4, 0, 1, 2, 3, 4, 5}, seen)

    def test_shows_at_all_nodes(self):
        source = random.Random(6)
        for turn in range(60):
            count = source.choice((2, 5, 8, 12))
            calls = random_graph(source, count)
            for more in range(12):
                tree = source.choice((("EX",), ("EG",), ("EF",), ("EU", random_tree(source, 2))))
                text = tuple(text_of(tree + (random_tree(source, 2),)).encode())
                calls += [(6, node, text) for node in range(count)]
            self.check(calls)


class BetweenOthers(unittest.TestCase):
    def test_calls_that_ask_leave_the_graph_as_it_was(self):
        source = random.Random(5)
        for turn in range(60):
            count = source.randrange(1, 13)
            plain = random_graph(source, count)
            plain += [call for call in (random_call(source, count) for more in range(150)) if call[0] <= 5]
            mixed = []
            for call in plain:
                asking = [random_call(source, count) for more in range(2)]
                mixed += [call] + [other for other in asking if other[0] > 5]
            given = ask([handed_in(call) for call in mixed])
            kept = [answer for call, answer in zip(mixed, given) if call[0] <= 5]
            self.assertEqual(kept, ask([handed_in(call) for call in plain]))


if __name__ == "__main__":
    unittest.main()
