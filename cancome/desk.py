"""The desk: takes a row of calls on a new graph, and gives back their answers."""

from cancome.asking import form_call, holds_call, same_call, shows_call
from cancome.building import cut_call, edge_call, marks_call, node_call, told_call
from cancome.comparing import apart_call, classes_call, quotient_call
from cancome.graph import Graph
from cancome.reading import WrongWord

FORMS = {
    0: ("marks",),
    1: ("node", "node"),
    2: ("node", "node"),
    3: ("node", "marks"),
    4: ("node",),
    5: ("text",),
    6: ("node", "text"),
    7: ("text",),
    8: (),
    9: ("node", "node"),
    10: (),
    11: ("text", "text"),
}
WITHOUT_DEAD_ENDS = (5, 6, 8, 9, 10, 11)
LAST_BUILDING = 4
GREATEST = {"marks": 15, "node": 11}
LONGEST_TEXT = 400
GREATEST_BYTE = 255


def answers(calls):
    """For each call, in order: how many numbers are answered, then these."""
    graph = Graph()
    told = []
    for number, arguments in split_calls(calls):
        answer = answer_of(graph, number, arguments)
        told.append(len(answer))
        told.extend(answer)
    return told


def split_calls(calls):
    """The calls as pairs: a call's number, and the list of its arguments."""
    pairs = []
    place = 0
    while place < len(calls):
        number = calls[place]
        place += 1
        arguments = []
        for kind in FORMS[number]:
            if kind == "text":
                start = place + 1
                place = start + calls[place]
                arguments.append(calls[start:place])
            else:
                arguments.append(calls[place])
                place += 1
        pairs.append((number, arguments))
    return pairs


def answer_of(graph, number, arguments):
    if not all([in_range(kind, value) for kind, value in zip(FORMS[number], arguments)]):
        return [-1]
    if number in WITHOUT_DEAD_ENDS and graph.has_dead_end():
        return [-2]
    if number <= LAST_BUILDING:
        return built(graph, number, arguments)
    try:
        return asked(graph, number, arguments)
    except WrongWord as wrong:
        return [-1000 - wrong.place]


def built(graph, number, arguments):
    if number == 0:
        return node_call(graph, arguments)
    if number == 1:
        return edge_call(graph, arguments)
    if number == 2:
        return cut_call(graph, arguments)
    if number == 3:
        return marks_call(graph, arguments)
    return told_call(graph, arguments)


def asked(graph, number, arguments):
    if number == 5:
        return holds_call(graph, arguments)
    if number == 6:
        return shows_call(graph, arguments)
    if number == 7:
        return form_call(arguments)
    if number == 8:
        return classes_call(graph)
    if number == 9:
        return apart_call(graph, arguments)
    if number == 10:
        return quotient_call(graph)
    return same_call(graph, arguments)


def in_range(kind, value):
    if kind == "text":
        return len(value) <= LONGEST_TEXT and all([0 <= byte <= GREATEST_BYTE for byte in value])
    return 0 <= value <= GREATEST[kind]
