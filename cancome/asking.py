"""The calls that ask of formulas: holds, shows, form, same.

Each takes the graph, but form, and the call's arguments, which are in their ranges, and gives back the answer's
numbers. Where the (first) text isn't a formula WrongWord is let through: it is one refusal for them all.
"""

from cancome.answer import counted
from cancome.formula import too_large
from cancome.meaning import nodes_where, truth_of, unlike
from cancome.reading import WrongWord, formula_of
from cancome.ways import has_way, way_shown
from cancome.writing import one_form


def holds_call(graph, arguments):
    formula = formula_of(arguments[0])
    if too_large(formula):
        return [-5]
    return counted(nodes_where(truth_of(graph, formula)))


def shows_call(graph, arguments):
    node = arguments[0]
    if not graph.has_node(node):
        return [-3]
    formula = formula_of(arguments[1])
    if too_large(formula):
        return [-5]
    if not truth_of(graph, formula)[node]:
        return [-4]
    if not has_way(formula):
        return [-6]
    way = way_shown(graph, formula, node)
    return [0, way.turn] + counted(way.nodes)


def form_call(arguments):
    formula = formula_of(arguments[0])
    if too_large(formula):
        return [-5]
    return counted(one_form(formula))


def same_call(graph, arguments):
    first = formula_of(arguments[0])
    try:
        second = formula_of(arguments[1])
    except WrongWord as wrong:
        return [-2000 - wrong.place]
    if too_large(first) or too_large(second):
        return [-5]
    return counted(nodes_where(unlike(truth_of(graph, first), truth_of(graph, second))))
