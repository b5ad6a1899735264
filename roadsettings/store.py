"""A store of nodes, and tables in it that share what they have in common."""

from roadsettings.errors import NoNode, NoTable
from roadsettings.marks import alike, digit, mark
from roadsettings.nodes import BARE, BARE_NUMBER, FIGURES, fork_of, has_mark, leaf_of, pairs_in, parts_in


class Store:
    """Nodes, numbered from 0 as they are made; none changes ever. Tables are told by their numbers."""

    def __init__(self):
        self.nodes = [BARE]
        # Not every node is a table: only what was told as one may be handed in as one.
        self.tables = {BARE_NUMBER: True}

    def empty(self):
        """The table of no pairs."""
        return BARE_NUMBER

    def put(self, table, name, value):
        """The table with the same pairs but that value for the name; the very one where it has an alike one."""
        if alike(self.looked(table, name), value):
            return table
        return self.as_table(self.put_in(table, 0, name, value))

    def without(self, table, name):
        """The table with the same pairs but the name's; the very one where there is none."""
        if self.looked(table, name) is None:
            return table
        return self.as_table(self.taken_from(table, 0, name))

    def looked(self, table, name):
        """The name's value in the table, None where there is none."""
        end = self.way(table, name)[-1]
        return dict(pairs_in(self.nodes[end])).get(name)

    def many(self, table):
        """How many pairs the table has."""
        return len(self.pairs(table))

    def pairs(self, table):
        """The list of the table's pairs, rising by name."""
        self.check_table(table)
        return sorted(self.pairs_below(table), key=lambda pair: pair[0])

    def way(self, table, name):
        """The list of the nodes from the table to the first that is no fork, by the digits of the name's mark."""
        self.check_table(table)
        told = [table]
        parts = parts_in(self.nodes[table])
        while parts:
            part = parts[digit(mark(name), len(told) - 1)]
            told.append(part)
            parts = parts_in(self.nodes[part])
        return told

    def node(self, number):
        """The node of that number, as a tuple."""
        if not 0 <= number < len(self.nodes):
            raise NoNode(number)
        return self.nodes[number]

    def made(self):
        """How many nodes there are, the bare one counted."""
        return len(self.nodes)

    def check_table(self, table):
        """Refuse what is no table of this store."""
        if table not in self.tables:
            raise NoTable(table)

    def pairs_below(self, number):
        """The list of all pairs in the node and in what it has as parts, in no promised order."""
        node = self.nodes[number]
        told = list(pairs_in(node))
        for part in parts_in(node):
            told.extend(self.pairs_below(part))
        return told

    def keep(self, node):
        """Put a new node behind the others, and tell its number."""
        self.nodes.append(node)
        return len(self.nodes) - 1

    def as_table(self, number):
        """From now on the node is a table; tells its number."""
        self.tables[number] = True
        return number

    def put_in(self, number, level, name, value):
        """Make what comes in the node's place, at that level, when the pair is put, and tell its number."""
        node = self.nodes[number]
        if number == BARE_NUMBER or has_mark(node, mark(name)):
            pairs = dict(pairs_in(node))
            pairs[name] = value
            return self.keep(leaf_of(list(pairs.items())))
        parts = self.fork_parts(number, level)
        figure = digit(mark(name), level)
        parts[figure] = self.put_in(parts[figure], level + 1, name, value)
        return self.keep(fork_of(parts))

    def fork_parts(self, number, level):
        """The list of a fork's parts; of a leaf those of a fork, at that level, that has it alone."""
        node = self.nodes[number]
        if parts_in(node):
            return list(parts_in(node))
        first_name = pairs_in(node)[0][0]
        at = digit(mark(first_name), level)
        return [number if figure == at else BARE_NUMBER for figure in FIGURES]

    def taken_from(self, number, level, name):
        """Make what comes in the node's place, at that level, when the name's pair goes, and tell its number."""
        node = self.nodes[number]
        if has_mark(node, mark(name)):
            left = [pair for pair in pairs_in(node) if pair[0] != name]
            return self.keep(leaf_of(left)) if left else BARE_NUMBER
        parts = list(parts_in(node))
        figure = digit(mark(name), level)
        parts[figure] = self.taken_from(parts[figure], level + 1, name)
        filled = [part for part in parts if part != BARE_NUMBER]
        # A single leaf comes up in the fork's place; a single fork doesn't, as it has unlike marks.
        if len(filled) == 1 and pairs_in(self.nodes[filled[0]]):
            return filled[0]
        return self.keep(fork_of(parts))
