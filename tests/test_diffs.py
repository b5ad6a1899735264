"""In what tables differ, and which nodes they reach: point [7], and what [2] says of it."""

import random
import unittest

from helper import POOLS, change_lists, do, draw_step, draw_tables, looks_due, nodes_below, plain, refusal, unlike_due
from roadsettings.diffs import differing, fresh, reached
from roadsettings.errors import NoTable
from roadsettings.store import Store

# Marks: a 1, b 2, aa 3, c 3, d 4, e 5, i 9, wzzz 257 (which is 1 and 256).


def table_of(store, pairs):
    table = 0
    for name, value in pairs:
        table = store.put(table, name, value)
    return table


def all_below(store, tables):
    return {number for table in tables for number in nodes_below(store, table)}


class DifferingByHand(unittest.TestCase):
    def setUp(self):
        self.store = Store()

    def check(self, one, other, names, looks):
        self.assertEqual(plain(differing(self.store, one, other)), plain((names, looks)))
        self.assertEqual(plain(differing(self.store, other, one)), plain((names, looks)))

    def test_a_table_and_itself_is_one_pair(self):
        for pairs in ([], [("a", 1)], [("a", 1), ("e", 2), ("b", 3)]):
            table = table_of(self.store, pairs)
            self.check(table, table, [], 1)

    def test_beside_table_0_nothing_is_gone_into(self):
        self.check(0, table_of(self.store, [("a", 1)]), ["a"], 1)
        self.check(0, table_of(self.store, [("e", 1), ("a", 1), ("b", 0), ("aa", "")]), ["a", "aa", "b", "e"], 1)

    def test_two_leaves_are_one_pair(self):
        leaf = table_of(self.store, [("c", 1), ("aa", 2)])
        self.check(leaf, table_of(self.store, [("c", "1"), ("aa", 2)]), ["c"], 1)
        self.check(leaf, table_of(self.store, [("aa", 2)]), ["c"], 1)
        self.check(leaf, table_of(self.store, [("aa", 2), ("c", 1)]), [], 1)
        self.check(leaf, table_of(self.store, [("d", 1)]), ["aa", "c", "d"], 1)

    def test_a_fork_beside_a_leaf_is_one_pair(self):
        fork = table_of(self.store, [("a", 1), ("e", 2), ("b", 3)])
        self.check(fork, table_of(self.store, [("e", 2)]), ["a", "b"], 1)
        self.check(fork, table_of(self.store, [("e", "2")]), ["a", "b", "e"], 1)
        self.check(fork, table_of(self.store, [("i", 2)]), ["a", "b", "e", "i"], 1)

    def test_two_forks_are_gone_into_four_by_four(self):
        low = table_of(self.store, [("a", 1), ("b", 2)])
        self.check(low, self.store.put(low, "b", 3), ["b"], 5)
        deep = table_of(self.store, [("a", 1), ("e", 2), ("b", 3)])
        self.check(deep, self.store.put(deep, "b", "3"), ["b"], 5)
        self.check(deep, self.store.put(deep, "e", 3), ["e"], 9)
        self.check(deep, self.store.put(deep, "wzzz", 0), ["wzzz"], 9)
        self.check(deep, low, ["b", "e"], 5)
        deepest = self.store.put(deep, "wzzz", 0)
        self.check(deepest, self.store.put(deepest, "wzzz", ""), ["wzzz"], 1 + 4 * 5)

    def test_alike_tables_by_two_roads_are_gone_into(self):
        one = table_of(self.store, [("a", 1), ("b", 2)])
        other = table_of(self.store, [("b", 2), ("a", 1)])
        self.assertNotEqual(one, other)
        self.check(one, other, [], 5)

    def test_values_that_look_alike_are_unlike(self):
        for value, other in ((0, "0"), (1, "1"), ("", " "), ("", 0), (-1, "-1")):
            one = table_of(self.store, [("a", value), ("b", 0)])
            self.check(one, table_of(self.store, [("a", other), ("b", 0)]), ["a"], 5)
        self.check(table_of(self.store, [("a", ""), ("b", 0)]), table_of(self.store, [("b", 0)]), ["a"], 1)


class DifferingDrawn(unittest.TestCase):
    def check(self, store, first, second):
        names = unlike_due(first[1], second[1])
        due = plain((names, looks_due(store, first[0], second[0])))
        self.assertEqual(plain(differing(store, first[0], second[0])), due)
        self.assertEqual(plain(differing(store, second[0], first[0])), due)

    def test_drawn_tables(self):
        for at, (word, names) in enumerate(POOLS):
            with self.subTest(names=word):
                store = Store()
                drawn = random.Random(at)
                told = draw_tables(store, names, 100, at) + draw_tables(store, names, 100, at + 50)
                for first, second in zip(told, told[1:]):
                    self.check(store, first, second)
                for turn in range(150):
                    self.check(store, drawn.choice(told), drawn.choice(told))
                for row in told[::10]:
                    self.check(store, row, row)
                    self.check(store, row, (0, {}))

    def test_alike_drawn_tables_by_two_roads(self):
        for word, names in POOLS:
            store = Store()
            drawn = random.Random(3)
            chosen = [(name, at) for at, name in enumerate(names[:40])]
            one = table_of(store, chosen)
            other = table_of(store, drawn.sample(chosen, len(chosen)))
            self.check(store, (one, dict(chosen)), (other, dict(chosen)))
            self.assertEqual(differing(store, one, other)[0], [])


class Reached(unittest.TestCase):
    def test_by_hand(self):
        store = Store()
        first = store.put(0, "a", 1)
        table = store.put(first, "e", 2)
        top, below, leaf = store.way(table, "e")
        self.assertEqual(plain(reached(store, [])), plain([]))
        self.assertEqual(reached(store, ()), [])
        self.assertEqual(reached(store, [0]), [])
        self.assertEqual(plain(reached(store, [first])), plain([first]))
        self.assertEqual(plain(reached(store, [table])), plain(sorted([first, top, below, leaf])))
        self.assertEqual(reached(store, (first, 0, table, table)), sorted([first, top, below, leaf]))

    def test_drawn_lists(self):
        for at, (word, names) in enumerate(POOLS):
            store = Store()
            tables = [table for table, values in draw_tables(store, names, 60, at)]
            drawn = random.Random(at)
            for many in list(range(6)) * 8:
                chosen = [drawn.choice(tables) for turn in range(many)]
                due = plain(sorted(all_below(store, chosen)))
                self.assertEqual(plain(reached(store, chosen)), due)
                self.assertEqual(plain(reached(store, tuple(chosen))), due)


class Fresh(unittest.TestCase):
    def test_by_hand(self):
        store = Store()
        first = store.put(0, "a", 1)
        table = store.put(first, "e", 2)
        made = sorted(store.way(table, "e"))
        self.assertEqual(plain(fresh(store, [], [])), plain([]))
        self.assertEqual(plain(fresh(store, [first], [table])), plain(made))
        self.assertEqual(plain(fresh(store, (first,), (table,))), plain(made))
        self.assertEqual(fresh(store, [table], [first]), [])
        self.assertEqual(fresh(store, [], [first, table]), sorted(made + [first]))
        self.assertEqual(fresh(store, [0], [first]), [first])
        self.assertEqual(fresh(store, [table, first], []), [])

    def test_one_table_may_stand_for_the_list_of_it(self):
        store = Store()
        first = store.put(0, "a", 1)
        table = store.put(first, "e", 2)
        for old, new in ((0, first), (first, table), (table, first), (0, 0), (0, table)):
            due = plain(fresh(store, [old], [new]))
            self.assertEqual(plain(fresh(store, old, new)), due)
            self.assertEqual(plain(fresh(store, [old], new)), due)

    def test_drawn_lists(self):
        for at, (word, names) in enumerate(POOLS):
            store = Store()
            tables = [table for table, values in draw_tables(store, names, 60, at)]
            drawn = random.Random(at)
            for turn in range(60):
                old = [drawn.choice(tables) for count in range(drawn.randrange(4))]
                new = [drawn.choice(tables) for count in range(drawn.randrange(4))]
                due = plain(sorted(all_below(store, new) - all_below(store, old)))
                self.assertEqual(plain(fresh(store, old, new)), due)
                self.assertEqual(plain(fresh(store, tuple(old), tuple(new))), due)

    def test_of_a_deed_it_tells_just_the_nodes_made(self):
        for at, (word, names) in enumerate(POOLS):
            store = Store()
            drawn = random.Random(at + 20)
            tables = [0]
            for deed in range(120):
                table = drawn.choice(tables[-4:])
                before = store.made()
                new = do(store, table, *draw_step(drawn, names))
                self.assertEqual(fresh(store, [table], [new]), list(range(before, store.made())))
                tables.append(new)


class Refused(unittest.TestCase):
    def setUp(self):
        self.store = Store()
        self.first = self.store.put(0, "a", 1)
        self.table = self.store.put(self.first, "e", 2)
        self.inner = self.store.way(self.table, "e")[1:]
        self.wrong = self.inner + [-1, self.store.made(), 10**9, -(10**9)]

    def test_what_is_no_table(self):
        store, good = self.store, self.table
        for bad in self.wrong:
            refusal(self, NoTable, bad, differing, store, bad, good)
            refusal(self, NoTable, bad, differing, store, good, bad)
            refusal(self, NoTable, bad, differing, store, bad, bad)
            for form in (list, tuple):
                refusal(self, NoTable, bad, reached, store, form([bad]))
                refusal(self, NoTable, bad, reached, store, form([good, 0, bad, good]))
                refusal(self, NoTable, bad, fresh, store, form([good, bad]), form([good]))
                refusal(self, NoTable, bad, fresh, store, form([]), form([good, bad]))
            refusal(self, NoTable, bad, fresh, store, bad, good)
            refusal(self, NoTable, bad, fresh, store, good, bad)

    def test_of_several_the_first_goes(self):
        store, good = self.store, self.table
        for bad in self.wrong:
            for worse in self.wrong:
                refusal(self, NoTable, bad, differing, store, bad, worse)
                refusal(self, NoTable, bad, reached, store, [good, bad, worse])
                refusal(self, NoTable, bad, fresh, store, [good, bad], [worse])
                refusal(self, NoTable, bad, fresh, store, [bad, worse], [good])
                refusal(self, NoTable, bad, fresh, store, [good], [bad, worse])

    def test_a_refusal_changes_nothing(self):
        before = (self.store.made(), self.store.pairs(self.table), differing(self.store, self.first, self.table))
        self.test_what_is_no_table()
        after = (self.store.made(), self.store.pairs(self.table), differing(self.store, self.first, self.table))
        self.assertEqual(before, after)
        self.assertEqual(self.store.put(0, "z", 1), before[0])

    def test_a_leaf_is_a_table_once_it_is_told(self):
        leaf = self.inner[-1]
        refusal(self, NoTable, leaf, reached, self.store, [leaf])
        self.assertEqual(self.store.without(self.table, "a"), leaf)
        self.assertEqual(reached(self.store, [leaf]), [leaf])
        self.assertEqual(differing(self.store, leaf, self.table), (["a"], 1))


class TheAskersOwn(unittest.TestCase):
    def test_lists_that_were_told_may_be_changed(self):
        store = Store()
        first = store.put(0, "a", 1)
        table = store.put(first, "e", 2)
        asks = [
            lambda: differing(store, first, table)[0],
            lambda: reached(store, [table]),
            lambda: fresh(store, [first], [table]),
        ]
        change_lists(self, asks)

    def test_what_is_handed_in_stays_as_it_was(self):
        store = Store()
        first = store.put(0, "a", 1)
        table = store.put(first, "e", 2)
        old, new = [table, 0, first], [first, table, table]
        reached(store, old)
        fresh(store, old, new)
        self.assertEqual((old, new), ([table, 0, first], [first, table, table]))

    def test_asking_makes_nothing(self):
        store = Store()
        told = draw_tables(store, POOLS[4][1], 30, 1)
        before = store.made()
        for (one, values), (other, others) in zip(told, told[3:]):
            differing(store, one, other)
            reached(store, [one, other])
            fresh(store, [one], [other])
        self.assertEqual(store.made(), before)


if __name__ == "__main__":
    unittest.main()
