"""Calls as lists of numbers, and answers taken apart, for the tests."""

from cancome.desk import answers

SMALLEST = -2 ** 63
GREATEST = 2 ** 63 - 1


def node(marks):
    return [0, marks]


def edge(start, end):
    return [1, start, end]


def cut(start, end):
    return [2, start, end]


def marks(number, new_marks):
    return [3, number, new_marks]


def told(number):
    return [4, number]


def row(text):
    """A text as it is handed in, how many numbers it has before it. text: a str, or a list of numbers."""
    numbers = list(text.encode("latin-1")) if isinstance(text, str) else list(text)
    return [len(numbers)] + numbers


def holds(text):
    return [5] + row(text)


def shows(number, text):
    return [6, number] + row(text)


def form(text):
    return [7] + row(text)


def classes():
    return [8]


def apart(first, second):
    return [9, first, second]


def quotient():
    return [10]


def same(first, second):
    return [11] + row(first) + row(second)


def graph(all_marks, edges):
    """The calls that make a graph."""
    return [node(number) for number in all_marks] + [edge(start, end) for start, end in edges]


def taken_apart(numbers):
    """Each call's answer, without its count."""
    found = []
    place = 0
    while place < len(numbers):
        end = place + 1 + numbers[place]
        assert place < end <= len(numbers), "a count that does not fit"
        found.append(numbers[place + 1:end])
        place = end
    return found


def ask(calls):
    """Each call's answer, as a list."""
    return taken_apart(answers([number for call in calls for number in call]))


def ask_last(calls):
    return ask(calls)[-1]


def ask_behind(first, calls):
    """The answers of the calls, made behind the first ones; in as many goes as the input's bounds ask for."""
    found = []
    waiting = list(calls)
    while waiting:
        made = list(first)
        numbers = sum(len(call) for call in made)
        while waiting and len(made) < 400 and numbers + len(waiting[0]) <= 16000:
            numbers += len(waiting[0])
            made.append(waiting.pop(0))
        found += ask(made)[len(first):]
    return found
