"""The desk: takes a row of calls on a new graph, and gives back their answers."""

from cancome.asking import holds_call
from cancome.building import cut_call, edge_call, marks_call, node_call, told_call
from cancome.graph import Graph

FORMS = {
    0: ("marks",),
    1: ("node", "node"),
    2: ("node", "node"),
    3: ("node", "marks"),
    4: ("node",),
    5: ("text",),
}
WITHOUT_DEAD_ENDS = (5,)
GREATEST = {"marks": 15, "node": 11}
LONGEST_TEXT = 400
GREATEST_BYTE = 255


def answers(calls):
    """For each call, in order: how many numbers are answered, then these."""
    graph = Graph()
    told = []
    for number, arguments in split_calls(calls):
        answer = answer_of(graph, number, arguments)
        told.append(len(answer))
        told.extend(answer)
    return told


def split_calls(calls):
    """The calls as pairs: a call's number, and the list of its arguments."""
    pairs = []
    place = 0
    while place < len(calls):
        number = calls[place]
        place += 1
        arguments = []
        for kind in FORMS[number]:
            if kind == "text":
                start = place + 1
                place = start + calls[place]
                arguments.append(calls[start:place])
            else:
                arguments.append(calls[place])
                place += 1
        pairs.append((number, arguments))
    return pairs


def answer_of(graph, number, arguments):
    if not all([in_range(kind, value) for kind, value in zip(FORMS[number], arguments)]):
        return [-1]
    if number in WITHOUT_DEAD_ENDS and graph.has_dead_end():
        return [-2]
    return done(graph, number, arguments)


def done(graph, number, arguments):
    if number == 0:
        return node_call(graph, arguments)
    if number == 1:
        return edge_call(graph, arguments)
    if number == 2:
        return cut_call(graph, arguments)
    if number == 3:
        return marks_call(graph, arguments)
    if number == 4:
        return told_call(graph, arguments)
    return holds_call(graph, arguments)


def in_range(kind, value):
    if kind == "text":
        return len(value) <= LONGEST_TEXT and all([0 <= byte <= GREATEST_BYTE for byte in value])
    return 0 <= value <= GREATEST[kind]
