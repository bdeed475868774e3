"""The calls on nodes that nothing tells apart: classes, apart, quotient.

Each takes the graph, in which every node has a next one, and apart its arguments, which are in their ranges; it gives
back the answer's numbers.
"""

from cancome.answer import counted
from cancome.formula import too_large
from cancome.parting import Teller
from cancome.rounds import last_classes, next_classes, parting_round, rounds_of
from cancome.writing import one_form

LAST_ROUND_TOLD = 5


def classes_call(graph):
    return counted(last_classes(graph))


def apart_call(graph, arguments):
    first = arguments[0]
    second = arguments[1]
    if not graph.has_node(first) or not graph.has_node(second):
        return [-3]
    rounds = rounds_of(graph)
    number = parting_round(rounds, first, second)
    if number is None:
        return [-4]
    if number > LAST_ROUND_TOLD:
        return [-6]
    formula = Teller(graph, rounds).formula_between(first, second)
    if too_large(formula):
        return [-5]
    return [number] + counted(one_form(formula))


def quotient_call(graph):
    classes = last_classes(graph)
    # As no round changes the classes any more, each class's least node speaks for all its nodes.
    least_nodes = [node for node in range(len(classes)) if node == classes.index(classes[node])]
    answer = [len(least_nodes)]
    for node in least_nodes:
        answer.append(graph.marks[node])
        answer.extend(counted(next_classes(graph, classes, node)))
    return answer
