"""The calls that make, change and tell the graph: node, edge, cut, marks, told.

Each takes the graph and the call's arguments, which are in their ranges, and gives back the answer's numbers.
"""

from cancome.answer import counted

MOST_NODES = 12
MOST_NEXTS = 4


def node_call(graph, arguments):
    if len(graph.marks) == MOST_NODES:
        return [-4]
    graph.marks.append(arguments[0])
    graph.nexts.append([])
    return [len(graph.marks) - 1]


def edge_call(graph, arguments):
    start = arguments[0]
    end = arguments[1]
    if not graph.has_node(start) or not graph.has_node(end):
        return [-3]
    if end in graph.nexts[start]:
        return [-5]
    if len(graph.nexts[start]) == MOST_NEXTS:
        return [-6]
    graph.nexts[start] = sorted(graph.nexts[start] + [end])
    return [0]


def cut_call(graph, arguments):
    start = arguments[0]
    end = arguments[1]
    if not graph.has_node(start) or not graph.has_node(end):
        return [-3]
    if end not in graph.nexts[start]:
        return [-5]
    graph.nexts[start] = [other for other in graph.nexts[start] if other != end]
    return [0]


def marks_call(graph, arguments):
    node = arguments[0]
    if not graph.has_node(node):
        return [-3]
    graph.marks[node] = arguments[1]
    return [0]


def told_call(graph, arguments):
    node = arguments[0]
    if not graph.has_node(node):
        return [-3]
    return [graph.marks[node]] + counted(graph.nexts[node])
