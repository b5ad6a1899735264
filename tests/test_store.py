"""Stores of tables that share nodes: points [5] and [6], and what [2] and [3] say of them."""

import random
import unittest

from helper import (
    POOLS, VALUES, after, change_lists, digit_of, do, draw_step, draw_tables, mark_of, nodes_below, plain, refusal,
    rising, shape_due, shape_told,
)
from roadsettings.errors import NoNode, NoTable
from roadsettings.store import Store

# Marks: a 1, b 2, aa 3, c 3, ba 4, d 4, e 5, wzzz 257 (which is 1 and 256).


def put_all(store, pairs, table=0):
    for name, value in pairs:
        table = store.put(table, name, value)
    return table


class ByHand(unittest.TestCase):
    def test_a_new_store(self):
        store = Store()
        self.assertEqual(plain(store.empty()), plain(0))
        self.assertEqual(plain(store.made()), plain(1))
        self.assertEqual(store.node(0), ("bare",))
        self.assertEqual((store.many(0), store.pairs(0), store.way(0, "a")), (0, [], [0]))
        self.assertIsNone(store.looked(0, "a"))
        self.assertEqual(store.without(0, "a"), 0)
        self.assertEqual(store.made(), 1)

    def test_one_pair_is_a_leaf(self):
        store = Store()
        table = store.put(0, "cab", "x")
        self.assertEqual(plain(table), plain(1))
        self.assertEqual(plain(store.node(table)), plain(("leaf", 11, (("cab", "x"),))))
        self.assertEqual(store.made(), 2)
        self.assertEqual(store.way(table, "a"), [table])

    def test_names_of_one_mark_stand_in_one_leaf(self):
        store = Store()
        first = store.put(0, "c", 1)
        both = store.put(first, "aa", "1")
        self.assertEqual(store.node(both), ("leaf", 3, (("aa", "1"), ("c", 1))))
        self.assertEqual(store.made(), 3)
        self.assertEqual(store.node(first), ("leaf", 3, (("c", 1),)))
        left = store.without(both, "c")
        self.assertEqual(store.node(left), ("leaf", 3, (("aa", "1"),)))
        self.assertEqual(store.made(), 4)

    def test_a_leaf_of_another_mark_goes_below_forks(self):
        store = Store()
        first = store.put(0, "a", 1)
        table = store.put(first, "e", 2)
        self.assertEqual(store.made(), 2 + 3)
        top, below, leaf = store.way(table, "e")
        self.assertEqual(store.node(top), ("fork", (0, below, 0, 0)))
        self.assertEqual(store.node(below), ("fork", (first, leaf, 0, 0)))
        self.assertEqual(store.node(leaf), ("leaf", 5, (("e", 2),)))
        self.assertEqual(sorted([top, below, leaf]), [2, 3, 4])

    def test_marks_that_part_at_the_last_level_make_six_nodes(self):
        store = Store()
        first = store.put(0, "a", 1)
        before = store.made()
        table = store.put(first, "wzzz", 2)
        self.assertEqual(store.made() - before, 6)
        way = store.way(table, "wzzz")
        self.assertEqual(len(way), 6)
        self.assertEqual(store.way(table, "a"), way[:-1] + [first])
        self.assertEqual(store.node(way[4]), ("fork", (first, way[5], 0, 0)))
        for at in range(4):
            parts = [0, 0, 0, 0]
            parts[[1, 0, 0, 0][at]] = way[at + 1]
            self.assertEqual(store.node(way[at]), ("fork", tuple(parts)))

    def test_the_very_leaf_comes_up(self):
        store = Store()
        first = store.put(0, "a", 1)
        two = store.put(first, "e", 2)
        three = store.put(two, "wzzz", 3)
        before = store.made()
        fewer = store.without(three, "wzzz")
        self.assertEqual(store.made() - before, 2)
        self.assertEqual(store.way(fewer, "a")[2:], [first])
        self.assertEqual(store.way(fewer, "e")[2:], store.way(two, "e")[2:])
        self.assertEqual(store.without(fewer, "e"), first)
        self.assertEqual(store.without(two, "e"), first)
        self.assertEqual(store.made() - before, 2)

    def test_a_fork_alone_does_not_come_up(self):
        store = Store()
        table = put_all(store, [("a", 1), ("e", 2), ("b", 3)])
        before = store.made()
        fewer = store.without(table, "b")
        self.assertEqual(store.made() - before, 1)
        below = store.way(table, "e")[1]
        self.assertEqual(store.node(fewer), ("fork", (0, below, 0, 0)))

    def test_without_of_all_pairs_tells_0(self):
        for names in (["a"], ["c", "aa"], ["a", "e", "wzzz", "b", "c", "aa"]):
            store = Store()
            table = put_all(store, [(name, name) for name in names])
            for name in names:
                table = store.without(table, name)
            self.assertEqual(plain(table), plain(0))

    def test_values_that_look_alike(self):
        for first in VALUES:
            for second in VALUES:
                for others in ([], [("c", 5)], [("aa", 5), ("b", "5")]):
                    store = Store()
                    table = store.put(put_all(store, others), "c", first)
                    before = store.made()
                    told = store.put(table, "c", second)
                    self.assertEqual(told == table, plain(first) == plain(second), (first, second))
                    self.assertEqual(store.made() == before, told == table)
                    self.assertEqual(plain(store.looked(told, "c")), plain(second))
                    self.assertEqual(plain(store.looked(table, "c")), plain(first))

    def test_nought_and_the_empty_text_are_values(self):
        for value in (0, ""):
            store = Store()
            table = store.put(0, "a", value)
            self.assertNotEqual(table, 0)
            self.assertEqual(plain(store.looked(table, "a")), plain(value))
            self.assertEqual((store.many(table), store.pairs(table)), (1, [("a", value)]))
            self.assertEqual(store.without(table, "a"), 0)

    def test_pairs_rise_by_name_whatever_their_marks_and_kinds(self):
        store = Store()
        table = put_all(store, [("z", 1), ("c", "1"), ("aa", 2), ("b", ""), ("zz", 0), ("ab", "x"), ("a", -1)])
        due = [("a", -1), ("aa", 2), ("ab", "x"), ("b", ""), ("c", "1"), ("z", 1), ("zz", 0)]
        self.assertEqual(plain(store.pairs(table)), plain(due))
        self.assertEqual(plain(store.many(table)), plain(7))

    def test_ways_of_names_there_gone_and_others(self):
        store = Store()
        two = put_all(store, [("a", 1), ("b", 2), ("e", 3)])
        fewer = store.without(two, "b")
        top, below = store.way(two, "a")[:2]
        self.assertEqual(store.way(two, "b"), [top, store.node(top)[1][2]])
        self.assertEqual(store.way(fewer, "b"), [fewer, 0])
        self.assertEqual(store.way(fewer, "i"), [fewer, below, 0])
        self.assertEqual(store.way(fewer, "wzzz"), [fewer, below, store.node(below)[1][0]])
        self.assertEqual(store.way(0, "wzzz"), [0])


class Drawn(unittest.TestCase):
    """Drawn deeds, from the last table told and from older ones, beside a dict."""

    def check_table(self, store, table, values):
        self.assertEqual(plain(store.pairs(table)), plain(rising(values)))
        self.assertEqual(plain(store.many(table)), plain(len(values)))
        self.assertEqual(plain(shape_told(store, table)), plain(shape_due(rising(values))))

    def check_looks(self, store, table, values, names):
        for name in names:
            self.assertEqual(plain(store.looked(table, name)), plain(values.get(name)))
            self.check_way(store, store.way(table, name), name)

    def check_way(self, store, way, name):
        self.assertIs(type(way), list)
        for level, number in enumerate(way[:-1]):
            kind, parts = store.node(number)
            self.assertEqual((kind, parts[digit_of(mark_of(name), level)]), ("fork", way[level + 1]))
        self.assertNotEqual(store.node(way[-1])[0], "fork")

    def check_made(self, store, old, new, name, before):
        """The nodes made by a deed are just those of [6], and all others are the very ones that stood there."""
        way = store.way(new, name)
        forks = way[:-1]
        last = store.node(way[-1])
        is_new = last[0] == "leaf" and last[1] == mark_of(name)
        due = forks + way[-1:] if is_new else forks
        self.assertEqual(sorted(due), list(range(before, store.made())))
        self.assertLessEqual(len(due), 6)
        self.assertEqual(nodes_below(store, new) - nodes_below(store, old), set(due))
        there = old
        for level, number in enumerate(forks):
            there = self.check_fork(store, there, number, level, name)

    def check_fork(self, store, there, number, level, name):
        """A new fork's parts off the way; tells what had stood at the next place of the way."""
        figure = digit_of(mark_of(name), level)
        stood = store.node(there)
        if stood[0] == "fork":
            parts = list(stood[1])
        else:
            self.assertEqual(stood[0], "leaf")
            self.assertNotEqual(stood[1], mark_of(name))
            parts = [there if at == digit_of(stood[1], level) else 0 for at in range(4)]
        for at in range(4):
            if at != figure:
                self.assertEqual(store.node(number)[1][at], parts[at])
        return parts[figure]

    def run_deeds(self, names, count, seed):
        drawn = random.Random(seed)
        store = Store()
        told = [(0, {})]
        seen = [("bare",)]
        for deed in range(count):
            table, values = told[-1] if drawn.random() < 0.7 else drawn.choice(told)
            name, value = draw_step(drawn, names)
            before = store.made()
            new = do(store, table, name, value)
            self.assertEqual(type(new), int)
            if plain(values.get(name)) == plain(value):
                self.assertEqual((new, store.made()), (table, before))
            else:
                self.check_made(store, table, new, name, before)
            told.append((new, after(values, name, value)))
            self.check_table(store, *told[-1])
            self.check_looks(store, *told[-1], drawn.sample(names, min(len(names), 6)) + [name])
            self.assertEqual([store.node(number) for number in range(before)], seen)
            seen += [store.node(number) for number in range(before, store.made())]
        for table, values in told:
            self.check_table(store, table, values)
            self.check_looks(store, table, values, drawn.sample(names, min(len(names), 3)))
        return told

    def test_drawn_deeds(self):
        for at, (word, names) in enumerate(POOLS):
            with self.subTest(names=word):
                for seed in range(3):
                    self.run_deeds(names, 120, 10 * at + seed)

    def test_four_hundred_deeds(self):
        told = self.run_deeds(POOLS[-1][1], 400, 99)
        self.assertEqual(len(told), 401)

    def test_a_hundred_and_twenty_pairs_come_and_go(self):
        names = sorted({name for word, pool in POOLS for name in pool})
        drawn = random.Random(7)
        names = drawn.sample(names, 120)
        store = Store()
        table, values = 0, {}
        for name in names + drawn.sample(names, 120):
            value = None if name in values else drawn.choice(VALUES)
            before = store.made()
            new = do(store, table, name, value)
            self.check_made(store, table, new, name, before)
            table, values = new, after(values, name, value)
            self.check_table(store, table, values)
        self.assertEqual(table, 0)

    def test_the_pairs_alone_tell_the_shape_by_whatever_road_they_came(self):
        for word, names in POOLS:
            drawn = random.Random(8)
            chosen = drawn.sample(names, min(len(names), 10))
            kept = chosen[: len(chosen) // 2]
            shapes = []
            for turn in range(6):
                store = Store()
                table = put_all(store, [(name, 0) for name in drawn.sample(chosen, len(chosen))])
                for name in drawn.sample(chosen, len(chosen)):
                    table = store.put(table, name, "v") if name in kept else store.without(table, name)
                shapes.append(plain(shape_told(store, table)))
            self.assertEqual(shapes, [plain(shape_due([(name, "v") for name in kept]))] * 6, word)

    def test_two_stores_number_alike_by_the_same_deeds(self):
        names = POOLS[2][1]
        first, second = Store(), Store()
        self.assertEqual(draw_tables(first, names, 150, 1), draw_tables(second, names, 150, 1))
        self.assertEqual(first.made(), second.made())
        numbers = range(first.made())
        self.assertEqual([first.node(number) for number in numbers], [second.node(number) for number in numbers])


class Refused(unittest.TestCase):
    def deeds(self, store):
        return [
            lambda table: store.put(table, "a", 1),
            lambda table: store.without(table, "a"),
            lambda table: store.looked(table, "a"),
            lambda table: store.many(table),
            lambda table: store.pairs(table),
            lambda table: store.way(table, "a"),
        ]

    def check_refused(self, store, tables):
        """Each number that is no table is refused by all, each that is one by none."""
        for number in list(range(-3, store.made() + 3)) + [10**6, -(10**6), 10**29, -(10**29)]:
            if number not in tables:
                for deed in self.deeds(store):
                    refusal(self, NoTable, number, deed, number)
            else:
                self.assertEqual(store.many(number), len(store.pairs(number)))
            if not 0 <= number < store.made():
                refusal(self, NoNode, number, store.node, number)

    def test_only_what_was_told_is_a_table(self):
        for word, names in POOLS:
            store = Store()
            tables = {table for table, values in draw_tables(store, names, 60, 3)}
            self.check_refused(store, tables)

    def test_a_new_store_has_table_0_alone(self):
        self.check_refused(Store(), {0})

    def test_inner_nodes_are_nodes_but_no_tables(self):
        store = Store()
        first = store.put(0, "a", 1)
        table = store.put(first, "e", 2)
        top, below, leaf = store.way(table, "e")
        self.check_refused(store, {0, first, top})
        self.assertEqual(store.node(below)[0], "fork")
        self.assertEqual(store.node(leaf)[0], "leaf")

    def test_a_leaf_that_without_tells_is_a_table_from_then_on(self):
        store = Store()
        first = store.put(0, "a", 1)
        table = store.put(first, "e", 2)
        leaf = store.way(table, "e")[-1]
        refusal(self, NoTable, leaf, store.pairs, leaf)
        before = store.made()
        self.assertEqual(store.without(table, "a"), leaf)
        self.assertEqual(store.made(), before)
        self.assertEqual(store.pairs(leaf), [("e", 2)])
        self.assertEqual(store.without(leaf, "e"), 0)
        self.check_refused(store, {0, first, table, leaf})

    def test_another_store_s_tables_are_none_here(self):
        first, second = Store(), Store()
        table = first.put(0, "a", 1)
        for deed in self.deeds(second):
            refusal(self, NoTable, table, deed, table)
        refusal(self, NoNode, table, second.node, table)

    def test_a_refusal_changes_nothing(self):
        names = POOLS[2][1]
        refused, calm = Store(), Store()
        told = draw_tables(refused, names, 40, 6)
        draw_tables(calm, names, 40, 6)
        tables = [table for table, values in told]
        for number in range(-2, refused.made() + 2):
            if number not in tables:
                for deed in self.deeds(refused):
                    refusal(self, NoTable, number, deed, number)
        self.assertEqual(refused.made(), calm.made())
        for table, values in told:
            self.assertEqual(refused.pairs(table), rising(values))
            for name in names[:3]:
                self.assertEqual(refused.put(table, name, "later"), calm.put(table, name, "later"))


class TheAskersOwn(unittest.TestCase):
    def test_lists_that_were_told_may_be_changed(self):
        store = Store()
        table = put_all(store, [("a", 1), ("e", "2"), ("b", "")])
        change_lists(self, [lambda: store.pairs(table), lambda: store.way(table, "e"), lambda: store.pairs(0)])
        self.assertEqual(store.looked(table, "e"), "2")
        self.assertEqual(store.node(0), ("bare",))

    def test_the_same_question_is_told_the_same(self):
        store = Store()
        told = draw_tables(store, POOLS[3][1], 50, 2)
        for ask in (store.made, store.empty):
            self.assertEqual(ask(), ask())
        for table, values in told:
            self.assertEqual(store.pairs(table), store.pairs(table))
            self.assertEqual(store.way(table, "a"), store.way(table, "a"))
            self.assertEqual(store.node(table), store.node(table))

    def test_two_stores_by_turns(self):
        stores = (Store(), Store())
        drawn = random.Random(12)
        told = [[0], [0]]
        deeds = [[], []]
        for turn in range(160):
            name, value = draw_step(drawn, POOLS[4][1][:20])
            at = drawn.randrange(2)
            deeds[at].append((name, value))
            told[at].append(do(stores[at], told[at][-1], name, value))
        for at in range(2):
            alone = Store()
            due = [0]
            for name, value in deeds[at]:
                due.append(do(alone, due[-1], name, value))
            self.assertEqual(told[at], due)
            self.assertEqual(stores[at].made(), alone.made())
            self.assertEqual([stores[at].pairs(table) for table in due], [alone.pairs(table) for table in due])


if __name__ == "__main__":
    unittest.main()
