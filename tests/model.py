"""A second way to do steps, to compare with: terms as trees.

Each variable points at its function itself, so no number is ever raised.
"""


class Node:
    """A part: its first place, its parts inside, and what a variable refers to.

    `refers` is a function's node, or the number of an open variable.
    """

    def __init__(self, kind, at, inside=(), refers=None):
        self.kind = kind
        self.at = at
        self.inside = list(inside)
        self.refers = refers


def read(term):
    """The tree of a term."""
    node, end = read_part(term, 0, [])
    assert end == len(term)
    return node


def read_part(term, at, around):
    if term[at] == 0:
        function, behind = read_part(term, at + 1, around)
        argument, end = read_part(term, behind, around)
        return Node("call", at, [function, argument]), end
    if term[at] == -1:
        node = Node("function", at)
        body, end = read_part(term, at + 1, around + [node])
        node.inside.append(body)
        return node, end
    number = term[at]
    if number <= len(around):
        return Node("variable", at, refers=around[-number]), at + 1
    return Node("variable", at, refers=number - len(around)), at + 1


def write(node, around=()):
    """The pairs of an integer and of a first place that the tree stands for."""
    if node.kind == "variable":
        if isinstance(node.refers, int):
            return [(node.refers + len(around), node.at)]
        return [(len(around) - around.index(node.refers), node.at)]
    if node.kind == "function":
        return [(-1, node.at)] + write(node.inside[0], around + (node,))
    return [(0, node.at)] + write(node.inside[0], around) + write(node.inside[1], around)


def find(node, at):
    """The node with this first place."""
    if node.at == at:
        return node
    for inner in node.inside:
        found = find(inner, at)
        if found is not None:
            return found
    return None


def copied(node, call, became):
    """A copy of a tree in which the call is done."""
    if node is call:
        return copied(call.inside[0].inside[0], call, became)
    if node.kind == "variable":
        if call.inside[0] is node.refers:
            return copied(call.inside[1], call, became)
        return Node("variable", node.at, refers=became.get(node.refers, node.refers))
    fresh = Node(node.kind, node.at)
    if node.kind == "function":
        became = {**became, node: fresh}
    fresh.inside = [copied(inner, call, became) for inner in node.inside]
    return fresh


def done(term, place):
    """The term that a step makes, and the origins of its parts."""
    root = read(term)
    pairs = write(copied(root, find(root, place), {}))
    return tuple([part for part, _ in pairs]), tuple([at for _, at in pairs])


def facts(term):
    """For each place: (end, holder, kind, depth, level, function)."""
    table = {}

    def visit(node, holder, kind, depth, level):
        ends = [visit(inner, node.at, *below(node, k, depth, level))
                for k, inner in enumerate(node.inside)]
        end = ends[-1] if ends else node.at + 1
        function = node.refers.at if isinstance(node.refers, Node) else None
        table[node.at] = (end, holder, kind, depth, level, function)
        return end

    def below(node, k, depth, level):
        if node.kind == "function":
            return "body", depth + 1, level
        return ("function", depth, level) if k == 0 else ("argument", depth, level + 1)

    visit(read(term), None, "root", 0, 0)
    return table


def open_numbers(term):
    """The numbers of the open variables."""
    numbers = set()
    waiting = [read(term)]
    while waiting:
        node = waiting.pop()
        if isinstance(node.refers, int):
            numbers.add(node.refers)
        waiting.extend(node.inside)
    return tuple(sorted(numbers))


def raised(term, number):
    """The term with each open variable raised."""
    root = read(term)
    waiting = [root]
    while waiting:
        node = waiting.pop()
        if isinstance(node.refers, int):
            node.refers += number
        waiting.extend(node.inside)
    return tuple([part for part, _ in write(root)])
