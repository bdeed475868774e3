"""A formula's one form."""


def one_form(formula):
    """The bytes of the formula's words, with one blank between."""
    return [ord(sign) for sign in " ".join(words_written(formula))]


def words_written(formula):
    if len(formula.parts) == 0:
        return [formula.kind]
    first = words_written(formula.parts[0])
    if len(formula.parts) == 1:
        return [formula.kind] + first
    joiner = [formula.kind]
    if formula.bound is not None:
        joiner.append(str(formula.bound))
    return ["("] + first + joiner + words_written(formula.parts[1]) + [")"]
