"""The graph: nodes with marks, and where each can go next."""


class Graph:
    """The marks of each node and the rising list of its next nodes, by the node's number."""

    def __init__(self):
        self.marks = []
        self.nexts = []

    def has_node(self, node):
        return node < len(self.marks)

    def has_dead_end(self):
        return any([len(ahead) == 0 for ahead in self.nexts])
