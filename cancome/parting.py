"""Formulas that hold at one node and not at another."""

from cancome.formula import Formula, negated, some_next
from cancome.meaning import has_mark
from cancome.rounds import parting_round

MARK_WORDS = ("m0", "m1", "m2", "m3")


class Teller:
    """A graph, the classes of its rounds, and the formulas told so far, by the two nodes."""

    def __init__(self, graph, rounds):
        self.graph = graph
        self.rounds = rounds
        self.known = {}

    def formula_between(self, holding, failing):
        """The formula told of two nodes that part: it holds at the first of them."""
        # Kept, as the same two nodes come again and again: up to four next nodes are gone through in each round.
        pair = (holding, failing)
        if pair not in self.known:
            self.known[pair] = self.made_between(holding, failing)
        return self.known[pair]

    def made_between(self, holding, failing):
        number = parting_round(self.rounds, holding, failing)
        if number == 0:
            return by_marks(self.graph.marks[holding], self.graph.marks[failing])
        classes = self.rounds[number - 1]
        alone = nexts_alone(self.graph, classes, holding, failing)
        if len(alone) > 0:
            return some_next(self.against_each(min(alone), self.graph.nexts[failing]))
        alone = nexts_alone(self.graph, classes, failing, holding)
        return negated(some_next(self.against_each(min(alone), self.graph.nexts[holding])))

    def against_each(self, node, others):
        """The formulas told of the node and each of the others, joined by and."""
        formulas = [self.formula_between(node, other) for other in others]
        whole = formulas[-1]
        for formula in reversed(formulas[:-1]):
            whole = Formula("and", [formula, whole])
        return whole


def nexts_alone(graph, classes, node, other):
    """The next nodes of the node whose classes no next node of the other has."""
    taken = [classes[there] for there in graph.nexts[other]]
    return [there for there in graph.nexts[node] if classes[there] not in taken]


def by_marks(holding, failing):
    """The formula told of two nodes with these marks, which are unlike."""
    unlike = [word for word in MARK_WORDS if has_mark(holding, word) != has_mark(failing, word)]
    formula = Formula(unlike[0], [])
    if has_mark(holding, unlike[0]):
        return formula
    return negated(formula)
