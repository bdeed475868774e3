"""Ways that show that a formula holds at a node."""

from cancome.meaning import one_step_more, truth_of

NO_TURN = -1


class Way:
    """The nodes told, and turn, the place among them where the way goes round (-1 if it ends)."""

    def __init__(self, nodes, turn):
        self.nodes = nodes
        self.turn = turn


def has_way(formula):
    """Whether the formula is of a kind of which a way is told."""
    return formula.kind in ("EX", "EU", "EG")


def way_shown(graph, formula, node):
    """The way that is told of a formula that has one and holds at the node."""
    if formula.kind == "EG":
        return endless_way(graph, truth_of(graph, formula), node)
    first = truth_of(graph, formula.parts[0])
    if formula.kind == "EX":
        return Way([node, least_next(graph, first, node)], NO_TURN)
    # The k of EU k isn't asked for: where the formula holds, a way with the fewest steps has at most k.
    return shortest_way(graph, first, truth_of(graph, formula.parts[1]), node)


def least_next(graph, truth, node):
    return min([there for there in graph.nexts[node] if truth[there]])


def shortest_way(graph, first, second, node):
    """Of the ways with the fewest steps the one whose second node is least, then its third, and so on."""
    # At place k: where the ways begin that arrive within k steps. So from k steps ahead one goes on to k - 1 ahead.
    reached = [second]
    while not reached[-1][node]:
        reached.append(one_step_more(graph, first, second, reached[-1]))
    nodes = [node]
    for truth in reversed(reached[:-1]):
        nodes.append(least_next(graph, truth, nodes[-1]))
    return Way(nodes, NO_TURN)


def endless_way(graph, truth, node):
    nodes = []
    here = node
    while here not in nodes:
        nodes.append(here)
        here = least_next(graph, truth, here)
    return Way(nodes, nodes.index(here))
