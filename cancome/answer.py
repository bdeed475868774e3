"""How an answer's numbers are put together."""


def counted(numbers):
    """A list as it stands in an answer: how many it has, then they."""
    return [len(numbers)] + numbers
