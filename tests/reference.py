"""What the document says of formulas, worked out in other ways than the program's.

A tree is a tuple: ("true",), ("m2",), (prefix, part), (joiner, left, right) or ("EU", left, right, k).
"""

PREFIXES = ("not", "EX", "AX", "EF", "AF", "EG", "AG")
LEAVES = ("true", "m0", "m1", "m2", "m3")
BOUNDS = ([str(number) for number in range(13)] + ["0" + str(number) for number in range(10)])


def random_tree(source, deep):
    """A tree that is so deep; the k of an EU k is a word, with or without a zero in front."""
    if deep <= 1:
        return (source.choice(LEAVES),)
    if source.randrange(2) == 0:
        return (source.choice(PREFIXES), random_tree(source, deep - 1))
    joiner = source.choice(("and", "or", "EU", "AU"))
    tree = (joiner, random_tree(source, deep - 1), random_tree(source, source.randrange(deep)))
    if joiner == "EU" and source.randrange(2) == 0:
        tree += (source.choice(BOUNDS),)
    return tree


def text_of(tree):
    """The tree as a text, with ( ) around each of its parts that needs them."""
    if len(tree) == 1:
        return tree[0]
    if len(tree) == 2:
        return tree[0] + " " + part_of(tree[1])
    bound = str(tree[3]) + " " if len(tree) == 4 else ""
    return part_of(tree[1]) + " " + tree[0] + " " + bound + part_of(tree[2])


def part_of(tree):
    return "( " + text_of(tree) + " )" if len(tree) > 2 else text_of(tree)


def written_out(tree):
    """The text with AX, EF, AF, AG and AU written out, by the document's own lines."""
    head = tree[0]
    if len(tree) == 1:
        return head
    inner = written_out(tree[1])
    if len(tree) == 2:
        lines = {
            "AX": "not EX not {}", "EF": "( true EU {} )", "AF": "not EG not {}", "AG": "not ( true EU not {} )",
        }
        return lines.get(head, head + " {}").format(inner)
    other = written_out(tree[2])
    if head == "AU":
        line = "not ( ( not {g} EU ( not {f} and not {g} ) ) or EG not {g} )"
        return line.format(f=inner, g=other)
    bound = str(tree[3]) + " " if len(tree) == 4 else ""
    return "( " + inner + " " + head + " " + bound + other + " )"


def size_of(tree):
    counted = ("true", "m0", "m1", "m2", "m3", "not", "and", "or", "EX", "EU", "EG")
    return sum(word in counted for word in written_out(tree).split())


def reachable(nexts, start, allowed):
    """The nodes at which ways of one step or more from start end, all of whose nodes but the last are allowed."""
    found = set()
    waiting = [start]
    while waiting:
        here = waiting.pop()
        if here in allowed:
            fresh = [there for there in nexts[here] if there not in found]
            found.update(fresh)
            waiting.extend(fresh)
    return found


def goes_on_within(nexts, start, allowed):
    """Whether some way without an end keeps to the allowed nodes: if so it comes to a node that it can come back to."""
    if start not in allowed:
        return False
    passed = {start} | (reachable(nexts, start, allowed) & allowed)
    return any(here in reachable(nexts, here, allowed) for here in passed)


def arrives(nexts, start, left, right, steps):
    if start in right:
        return True
    if steps == 0 or start not in left:
        return False
    return any(arrives(nexts, there, left, right, steps - 1) for there in nexts[start])


def must_arrive(nexts, left, right):
    """The least set with right in it, and each node of left all of whose next nodes are in it."""
    found = set(right)
    while True:
        more = {here for here in left if all(there in found for there in nexts[here])} - found
        if not more:
            return found
        found |= more


def where(tree, all_marks, nexts):
    """The set of the nodes at which the tree's formula holds; each node has a next one."""
    head = tree[0]
    nodes = set(range(len(all_marks)))
    if head == "true":
        return nodes
    if len(tree) == 1:
        return {here for here in nodes if all_marks[here] // 2 ** int(head[1]) % 2 == 1}
    inner = where(tree[1], all_marks, nexts)
    if len(tree) == 2:
        return where_prefixed(head, inner, nodes, nexts)
    other = where(tree[2], all_marks, nexts)
    if head == "and":
        return inner & other
    if head == "or":
        return inner | other
    if head == "AU":
        return must_arrive(nexts, inner, other)
    if len(tree) == 4:
        return {here for here in nodes if arrives(nexts, here, inner, other, tree[3])}
    return {here for here in nodes if here in other or reachable(nexts, here, inner - other) & other}


def where_prefixed(head, inner, nodes, nexts):
    if head == "not":
        return nodes - inner
    if head == "EX":
        return {here for here in nodes if inner & set(nexts[here])}
    if head == "AX":
        return {here for here in nodes if inner >= set(nexts[here])}
    if head == "EF":
        return {here for here in nodes if inner & ({here} | reachable(nexts, here, nodes))}
    if head == "AG":
        return {here for here in nodes if inner >= ({here} | reachable(nexts, here, nodes))}
    if head == "EG":
        return {here for here in nodes if goes_on_within(nexts, here, inner)}
    return must_arrive(nexts, nodes, inner)


def choices(symbol):
    """The right-hand sides of the grammar for ("formula", deep) or ("part", deep)."""
    name, deep = symbol
    part = ("part", deep)
    if name == "formula":
        joined = [[part, joiner, part] for joiner in ("and", "or", "EU", "AU")]
        return [[part]] + joined + [[part, "EU", "K", part]]
    leaves = [[word] for word in LEAVES]
    if deep == 41:
        return leaves
    deeper = [["(", ("formula", deep + 1), ")"]] + [[word, ("part", deep + 1)] for word in PREFIXES]
    return leaves + deeper


def after(pending, word):
    """The rows of what is still wanted, once the word has been taken."""
    found = set()
    waiting = list(pending)
    while waiting:
        row = waiting.pop()
        if not row:
            continue
        if isinstance(row[0], tuple):
            waiting.extend([tuple(choice) + row[1:] for choice in choices(row[0])])
        elif row[0] == word or (row[0] == "K" and word in BOUNDS):
            found.add(row[1:])
    return found


def wrong_word(words):
    """The place of the wrong word, 0 if the words are a formula: by all ways at once through the grammar."""
    pending = {(("formula", 1),)}
    for place, word in enumerate(words):
        pending = after(pending, word)
        if not pending:
            return place + 1
    return 0 if () in pending else len(words) + 1
