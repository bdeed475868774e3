"""Where a formula holds on a graph.

A truth is a list that has, for each node, whether something holds at it.
"""

MARK_VALUES = {"m0": 1, "m1": 2, "m2": 4, "m3": 8}


def nodes_where(truth):
    """The nodes at which it holds, rising."""
    return [node for node, here in enumerate(truth) if here]


def truth_of(graph, formula):
    kind = formula.kind
    if kind == "true":
        return [True for marks in graph.marks]
    if kind in MARK_VALUES:
        return [has_mark(marks, kind) for marks in graph.marks]
    first = truth_of(graph, formula.parts[0])
    if kind == "not":
        return [not here for here in first]
    if kind == "EX":
        return at_some_next(graph, first)
    if kind == "EG":
        return for_ever(graph, first)
    second = truth_of(graph, formula.parts[1])
    if kind == "and":
        return both(first, second)
    if kind == "or":
        return either(first, second)
    return until(graph, first, second, formula.bound)


def has_mark(marks, word):
    return (marks & MARK_VALUES[word]) != 0


def both(first, second):
    return [here and there for here, there in zip(first, second)]


def either(first, second):
    return [here or there for here, there in zip(first, second)]


def unlike(first, second):
    return [here != there for here, there in zip(first, second)]


def at_some_next(graph, truth):
    return [any([truth[node] for node in ahead]) for ahead in graph.nexts]


def until(graph, first, second, bound):
    # A shortest way passes no node twice, so that as many steps as there are nodes are always enough.
    steps = len(graph.marks) if bound is None else bound
    reached = second
    for step in range(steps):
        reached = one_step_more(graph, first, second, reached)
    return reached


def one_step_more(graph, first, second, reached):
    """Where a way begins that arrives within one step more than those that begin where reached says."""
    return either(second, both(first, at_some_next(graph, reached)))


def for_ever(graph, truth):
    # Each round but the last takes at least one node away, so that more rounds than nodes change nothing.
    kept = truth
    for node in range(len(graph.marks)):
        kept = both(truth, at_some_next(graph, kept))
    return kept
