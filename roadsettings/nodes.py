"""The nodes of which tables are built: the bare one, leaves and forks, told as tuples.

BARE, leaf_of and fork_of tell a single node. The parts of a fork are numbers of nodes.
parts_in, pairs_in and has_mark look into one. nodes_of tells which nodes the table of some pairs has.
"""

from roadsettings.marks import digit, mark

BARE = ("bare",)
BARE_NUMBER = 0
FIGURES = (0, 1, 2, 3)


def leaf_of(pairs):
    """The leaf with these pairs, one at least, of unlike names that all have one mark."""
    # Sorted by the names alone: values of two kinds can't be compared.
    rising = sorted(pairs, key=lambda pair: pair[0])
    first_name = rising[0][0]
    return ("leaf", mark(first_name), tuple(rising))


def fork_of(parts):
    """The fork with these four parts, the one for a digit at that digit's place."""
    return ("fork", tuple(parts))


def parts_in(node):
    """The tuple of a fork's parts; an empty one of any other node."""
    return node[1] if node[0] == "fork" else ()


def pairs_in(node):
    """The tuple of a leaf's own pairs; an empty one of any other node."""
    return node[2] if node[0] == "leaf" else ()


def has_mark(node, number):
    """Whether the node is a leaf of that mark."""
    return node[0] == "leaf" and node[1] == number


def nodes_of(pairs):
    """The list of the nodes that the table of these pairs, with unlike names, has.

    A node's number is its place in the list: the bare node comes first, the parts of a fork
    stand ahead of it, and so the table itself is the last one.
    """
    nodes = [BARE]
    add_nodes(nodes, pairs, 0)
    return nodes


def add_nodes(nodes, pairs, level):
    """Put what stands for these pairs at that level behind the nodes, and tell its number."""
    if not pairs:
        return BARE_NUMBER
    if have_one_mark(pairs):
        nodes.append(leaf_of(pairs))
    else:
        parts = [add_nodes(nodes, pairs_at(pairs, level, figure), level + 1) for figure in FIGURES]
        nodes.append(fork_of(parts))
    return len(nodes) - 1


def have_one_mark(pairs):
    """Whether the names of these pairs, one at least, all have the same mark."""
    first_mark = mark(pairs[0][0])
    return all([mark(name) == first_mark for name, value in pairs])


def pairs_at(pairs, level, figure):
    """The list of those pairs whose names' marks have that figure at that level."""
    return [(name, value) for name, value in pairs if digit(mark(name), level) == figure]
