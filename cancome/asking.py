"""The calls that ask what can come: holds.

Each takes the graph and the call's arguments, which are in their ranges, and gives back the answer's numbers.
"""

from cancome.meaning import nodes_where
from cancome.reading import WrongWord, formula_of

GREATEST_SIZE = 40


def holds_call(graph, arguments):
    try:
        formula = formula_of(arguments[0])
    except WrongWord as wrong:
        return [-1000 - wrong.place]
    if formula.size > GREATEST_SIZE:
        return [-5]
    nodes = nodes_where(graph, formula)
    return [len(nodes)] + nodes
