"""Where a formula holds on a graph.

A truth is a list that has, for each node, whether something holds at it.
"""

MARK_VALUES = {"m0": 1, "m1": 2, "m2": 4, "m3": 8}


def nodes_where(graph, formula):
    """The nodes at which the formula holds, rising."""
    return [node for node, here in enumerate(truth_of(graph, formula)) if here]


def truth_of(graph, formula):
    kind = formula.kind
    if kind == "true":
        return [True for marks in graph.marks]
    if kind in MARK_VALUES:
        return [(marks & MARK_VALUES[kind]) != 0 for marks in graph.marks]
    first = truth_of(graph, formula.parts[0])
    if kind == "not":
        return [not here for here in first]
    if kind == "EX":
        return at_some_next(graph, first)
    if kind == "EG":
        return for_ever(graph, first)
    second = truth_of(graph, formula.parts[1])
    if kind == "and":
        return both(first, second)
    if kind == "or":
        return either(first, second)
    return until(graph, first, second, formula.bound)


def both(first, second):
    return [here and there for here, there in zip(first, second)]


def either(first, second):
    return [here or there for here, there in zip(first, second)]


def at_some_next(graph, truth):
    return [any([truth[node] for node in ahead]) for ahead in graph.nexts]


def until(graph, first, second, bound):
    # A shortest way passes no node twice, so that as many steps as there are nodes are always enough.
    steps = len(graph.marks) if bound is None else bound
    reached = second
    for step in range(steps):
        reached = either(second, both(first, at_some_next(graph, reached)))
    return reached


def for_ever(graph, truth):
    # Each round but the last takes at least one node away, so that more rounds than nodes change nothing.
    kept = truth
    for node in range(len(graph.marks)):
        kept = both(truth, at_some_next(graph, kept))
    return kept
