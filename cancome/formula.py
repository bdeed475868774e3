"""Formulas, kept written out: their kinds are true, m0 to m3, not, and, or, EX, EU and EG alone."""

GREATEST_SIZE = 40


class Formula:
    """A formula of one kind and its parts; bound is the k of EU k, else None."""

    def __init__(self, kind, parts, bound=None):
        self.kind = kind
        self.parts = parts
        self.bound = bound
        # Reckoned here and not by a walk: AU has one part three times, so a walk through many AU would never end.
        self.size = 1 + sum([part.size for part in parts])


def too_large(formula):
    """Whether a call refuses the formula for its size."""
    return formula.size > GREATEST_SIZE


def negated(inner):
    return Formula("not", [inner])


def some_next(inner):
    return Formula("EX", [inner])


def every_next(inner):
    return negated(some_next(negated(inner)))


def some_time(inner):
    return Formula("EU", [Formula("true", []), inner])


def some_way_always(inner):
    return Formula("EG", [inner])


def every_way_some_time(inner):
    return negated(some_way_always(negated(inner)))


def every_way_always(inner):
    return negated(some_time(negated(inner)))


def every_way_until(first, second):
    neither = Formula("and", [negated(first), negated(second)])
    broken = Formula("EU", [negated(second), neither])
    return negated(Formula("or", [broken, some_way_always(negated(second))]))


BUILDERS = {
    "not": negated,
    "EX": some_next,
    "AX": every_next,
    "EF": some_time,
    "AF": every_way_some_time,
    "EG": some_way_always,
    "AG": every_way_always,
}


def prefixed(word, inner):
    """The formula that the word (not, EX, AX, EF, AF, EG, AG) makes of the part behind it."""
    build = BUILDERS[word]
    return build(inner)


def joined(word, first, second, bound):
    """The formula that the word (and, or, EU, AU) makes of the parts on its two sides."""
    if word == "AU":
        return every_way_until(first, second)
    return Formula(word, [first, second], bound)
