"""The bare node, leaves, forks, and which nodes a table has: point [5], and [6] where it tells a node."""

import copy
import itertools
import unittest

from roadsettings.marks import digit, mark
from roadsettings.nodes import BARE, fork_of, has_mark, leaf_of, nodes_of, pairs_in, parts_in

# Marks: a 1, b 2, aa 3, c 3, ba 4, d 4, ab 5, e 5, cab 11, wzzz 257 (which is 1 and 256).
SOME = [
    [],
    [("a", 1)],
    [("c", "x"), ("aa", 2)],
    [("a", 1), ("b", "")],
    [("a", 1), ("e", 2), ("ab", "three"), ("d", 4), ("ba", 5)],
    [("a", 0), ("wzzz", -1)],
    [("zzzzzzzz", 1), ("a", "1"), ("cab", 10**29), ("wzzz", " "), ("road", "~"), ("raod", 0)],
    [(first + second, at) for at, (first, second) in enumerate(itertools.product("abcdefghijk", repeat=2))],
]


def shape(nodes, number):
    """A node with its parts' shapes in place of their numbers."""
    node = nodes[number]
    if node[0] == "fork":
        return ("fork", tuple(shape(nodes, part) for part in node[1]))
    return node


def table_shape(pairs):
    nodes = nodes_of(pairs)
    return shape(nodes, len(nodes) - 1)


def pairs_below(node):
    """All pairs of a shape."""
    if node[0] == "fork":
        return [pair for part in node[1] for pair in pairs_below(part)]
    return list(node[2]) if node[0] == "leaf" else []


class Single(unittest.TestCase):
    def test_the_bare_node(self):
        self.assertEqual(BARE, ("bare",))

    def test_a_leaf_of_one_pair(self):
        self.assertEqual(leaf_of([("cab", "x")]), ("leaf", 11, (("cab", "x"),)))

    def test_a_leaf_s_pairs_rise_by_name(self):
        due = ("leaf", 4, (("ba", 2), ("d", "x")))
        self.assertEqual(leaf_of([("ba", 2), ("d", "x")]), due)
        self.assertEqual(leaf_of([("d", "x"), ("ba", 2)]), due)
        self.assertEqual(leaf_of((("d", "x"), ("ba", 2))), due)

    def test_names_rise_as_texts_whatever_their_length(self):
        self.assertEqual([mark(name) for name in ("p", "gaaa", "fe")], [16, 16, 16])
        due = ("leaf", 16, (("fe", 3), ("gaaa", "2"), ("p", 1)))
        for pairs in itertools.permutations([("p", 1), ("gaaa", "2"), ("fe", 3)]):
            self.assertEqual(leaf_of(pairs), due)

    def test_a_fork_s_four_parts_stand_by_their_digits(self):
        self.assertEqual(fork_of([0, 3, 0, 7]), ("fork", (0, 3, 0, 7)))
        self.assertEqual(fork_of((9, 8, 7, 6)), ("fork", (9, 8, 7, 6)))

    def test_what_stands_in_a_node(self):
        fork = fork_of([0, 3, 0, 7])
        leaf = leaf_of([("d", "x"), ("ba", 2)])
        self.assertEqual([parts_in(node) for node in (BARE, leaf, fork)], [(), (), (0, 3, 0, 7)])
        self.assertEqual([pairs_in(node) for node in (BARE, leaf, fork)], [(), (("ba", 2), ("d", "x")), ()])
        self.assertEqual([has_mark(node, 4) for node in (BARE, leaf, fork)], [False, True, False])
        self.assertFalse(has_mark(leaf, 5))


class Tables(unittest.TestCase):
    def test_no_pairs(self):
        self.assertEqual(nodes_of([]), [("bare",)])
        self.assertEqual(nodes_of(()), [("bare",)])

    def test_pairs_of_one_mark_are_a_leaf(self):
        self.assertEqual(nodes_of([("cab", 5)]), [("bare",), ("leaf", 11, (("cab", 5),))])
        self.assertEqual(nodes_of([("c", "x"), ("aa", 2)]), [("bare",), ("leaf", 3, (("aa", 2), ("c", "x")))])

    def test_marks_that_part_at_once(self):
        first = ("leaf", 1, (("a", 1),))
        second = ("leaf", 2, (("b", ""),))
        self.assertEqual(table_shape([("a", 1), ("b", "")]), ("fork", (BARE, first, second, BARE)))
        self.assertEqual(len(nodes_of([("a", 1), ("b", "")])), 4)

    def test_marks_that_part_at_the_next_level(self):
        one = ("leaf", 1, (("a", 1),))
        five = ("leaf", 5, (("ab", "three"), ("e", 2)))
        four = ("leaf", 4, (("ba", 5), ("d", 4)))
        below = ("fork", (one, five, BARE, BARE))
        told = table_shape([("a", 1), ("e", 2), ("ab", "three"), ("d", 4), ("ba", 5)])
        self.assertEqual(told, ("fork", (four, below, BARE, BARE)))

    def test_marks_that_part_at_the_last_level(self):
        one = ("leaf", 1, (("a", 0),))
        other = ("leaf", 257, (("wzzz", -1),))
        due = ("fork", (one, other, BARE, BARE))
        for part in range(3):
            due = ("fork", (due, BARE, BARE, BARE))
        due = ("fork", (BARE, due, BARE, BARE))
        self.assertEqual(table_shape([("a", 0), ("wzzz", -1)]), due)
        self.assertEqual(len(nodes_of([("a", 0), ("wzzz", -1)])), 1 + 2 + 5)

    def test_every_node_stands_where_the_document_asks(self):
        for pairs in SOME:
            with self.subTest(pairs=pairs[:6]):
                self.check_part(table_shape(pairs), pairs, 0)

    def check_part(self, node, pairs, level):
        marks = {mark(name) for name, value in pairs}
        if len(marks) < 2:
            due = ("leaf", mark(pairs[0][0]), tuple(sorted(pairs))) if pairs else ("bare",)
            self.assertEqual(node, due)
            return
        self.assertEqual((node[0], len(node), len(node[1])), ("fork", 2, 4))
        for figure in range(4):
            below = [pair for pair in pairs if digit(mark(pair[0]), level) == figure]
            self.check_part(node[1][figure], below, level + 1)

    def test_all_pairs_are_there_once(self):
        for pairs in SOME:
            self.assertEqual(sorted(pairs_below(table_shape(pairs))), sorted(pairs))

    def test_parts_are_numbers_of_nodes_ahead_and_each_node_but_the_bare_one_has_one_place(self):
        for pairs in SOME:
            nodes = nodes_of(pairs)
            self.assertEqual(nodes[0], ("bare",))
            seen = []
            for number, node in enumerate(nodes):
                parts = node[1] if node[0] == "fork" else ()
                self.assertTrue(all(0 <= part < number for part in parts))
                seen += [part for part in parts if part != 0]
            self.assertEqual(sorted(seen), list(range(1, len(nodes) - 1)))
            self.assertNotIn(("bare",), nodes[1:])

    def test_the_order_of_the_pairs_changes_nothing(self):
        pairs = [("a", 1), ("e", "2"), ("ab", 3), ("cab", ""), ("wzzz", 5)]
        due = nodes_of(pairs)
        for turned in itertools.permutations(pairs):
            self.assertEqual(nodes_of(turned), due)
            self.assertEqual(nodes_of(list(turned)), due)


class HandedIn(unittest.TestCase):
    def test_what_is_handed_in_stays_as_it_was(self):
        for pairs in SOME:
            before = copy.deepcopy(pairs)
            nodes_of(pairs)
            self.assertEqual(pairs, before)
        pairs = [("d", "x"), ("ba", 2)]
        leaf_of(pairs)
        self.assertEqual(pairs, [("d", "x"), ("ba", 2)])
        parts = [4, 3, 2, 1]
        fork_of(parts)
        self.assertEqual(parts, [4, 3, 2, 1])

    def test_what_is_told_hears_nothing_of_later_changes(self):
        pairs = [("d", "x"), ("ba", 2)]
        parts = [4, 3, 2, 1]
        leaf = leaf_of(pairs)
        fork = fork_of(parts)
        nodes = nodes_of(pairs)
        pairs.append(("a", 1))
        parts[0] = 9
        self.assertEqual(leaf, ("leaf", 4, (("ba", 2), ("d", "x"))))
        self.assertEqual(fork, ("fork", (4, 3, 2, 1)))
        self.assertEqual(nodes, [("bare",), leaf])

    def test_what_is_told_is_the_asker_s_own(self):
        first = nodes_of([("a", 1)])
        first.append("more")
        first[0] = "other"
        self.assertEqual(nodes_of([("a", 1)]), [("bare",), ("leaf", 1, (("a", 1),))])
        self.assertEqual(nodes_of([]), [("bare",)])


if __name__ == "__main__":
    unittest.main()
