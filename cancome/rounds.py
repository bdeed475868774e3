"""Rounds of classes: which nodes nothing has told apart so far.

The classes of a round are a list that has, for each node, its class.
"""


def rounds_of(graph):
    """The classes of each round from 0 to n, n being how many nodes there are."""
    rounds = [numbered(graph.marks)]
    for node in range(len(graph.marks)):
        rounds.append(finer(graph, rounds[-1]))
    return rounds


def last_classes(graph):
    """The classes that no round changes any more."""
    return rounds_of(graph)[-1]


def finer(graph, classes):
    """The classes of the round behind the one with these classes."""
    ahead = [tuple(next_classes(graph, classes, node)) for node in range(len(classes))]
    return numbered(list(zip(classes, ahead)))


def next_classes(graph, classes, node):
    """The classes of the node's next nodes, rising, each once."""
    return sorted(set([classes[there] for there in graph.nexts[node]]))


def numbered(signs):
    """For each sign its class: like signs are in one, and they are numbered as they first come."""
    numbers = {}
    for sign in signs:
        if sign not in numbers:
            numbers[sign] = len(numbers)
    return [numbers[sign] for sign in signs]


def parting_round(rounds, first, second):
    """The first round in which the two nodes are in unlike classes, None if there is none."""
    for number, classes in enumerate(rounds):
        if classes[first] != classes[second]:
            return number
    return None
