"""Roads along which something is set and cleared: points [8] and [9], and what [2] and [3] say of them."""

import random
import unittest

from helper import POOLS, VALUES, change_lists, do, draw_roads, plain, refusal, rising, road_due, unlike_due
from roadsettings.diffs import fresh
from roadsettings.errors import NoPlace, NotBehind
from roadsettings.roads import Roads
from roadsettings.store import Store

# Marks: a 1, b 2, aa 3, c 3, e 5, wzzz 257 (which is 1 and 256).
NONE_OF_THEM = [-1, -2, 10**6, -(10**6), 10**29, -(10**29)]


def last_due(rows, place, name):
    found = [at for at in road_due(rows, place) if rows[at][1] is not None and rows[at][1][1] == name]
    return found[-1] if found else None


def told_of(roads, place, names):
    """All that the roads tell of one place."""
    told = [roads.ahead(place), roads.step(place), roads.length(place), roads.road(place), roads.table(place)]
    told += [roads.all_at(place), roads.cost(place)]
    for name in names:
        told += [roads.last(place, name), roads.walked(place, name), roads.looked(place, name)]
    return plain(told)


def fork_in_the_road():
    """0 - 1 set a 1 - 2 set b 2 - 3 clear a - 4 set a 1, and behind 2 also 5 set a "1" - 6 clear zz."""
    roads = Roads()
    one = roads.put(0, "a", 1)
    two = roads.put(one, "b", 2)
    three = roads.clear(two, "a")
    roads.put(three, "a", 1)
    five = roads.put(two, "a", "1")
    roads.clear(five, "zz")
    return roads


class ByHand(unittest.TestCase):
    def test_the_begin(self):
        roads = Roads()
        self.assertEqual(plain(roads.places()), plain(1))
        self.assertIsNone(roads.ahead(0))
        self.assertIsNone(roads.step(0))
        self.assertEqual(plain((roads.length(0), roads.road(0))), plain((0, [0])))
        self.assertIsNone(roads.last(0, "a"))
        self.assertIsNone(roads.walked(0, "a"))
        self.assertIsNone(roads.looked(0, "a"))
        self.assertEqual(plain((roads.table(0), roads.all_at(0), roads.cost(0))), plain((0, [], 0)))
        self.assertEqual((roads.meeting(0, 0), roads.between(0, 0), roads.unlike(0, 0)), (0, [], []))
        self.assertIsInstance(roads.store(), Store)
        self.assertEqual(roads.store().made(), 1)

    def test_places_are_counted_as_they_are_made(self):
        roads = Roads()
        self.assertEqual(plain(roads.put(0, "a", 1)), plain(1))
        self.assertEqual(plain(roads.clear(0, "a")), plain(2))
        self.assertEqual(plain(roads.put(1, "a", 1)), plain(3))
        self.assertEqual(plain(roads.places()), plain(4))

    def test_each_name_of_the_class(self):
        roads = fork_in_the_road()
        self.assertEqual(roads.places(), 7)
        self.assertEqual([roads.ahead(place) for place in range(7)], [None, 0, 1, 2, 3, 2, 5])
        self.assertEqual(plain(roads.step(1)), plain(("set", "a", 1)))
        self.assertEqual(plain(roads.step(3)), plain(("clear", "a")))
        self.assertEqual(plain(roads.step(5)), plain(("set", "a", "1")))
        self.assertEqual([roads.length(place) for place in range(7)], [0, 1, 2, 3, 4, 3, 4])
        self.assertEqual(plain(roads.road(4)), plain([0, 1, 2, 3, 4]))
        self.assertEqual(plain(roads.road(6)), plain([0, 1, 2, 5, 6]))
        self.assertEqual([roads.last(place, "a") for place in range(7)], [None, 1, 1, 3, 4, 5, 5])
        self.assertEqual([roads.last(place, "b") for place in range(7)], [None, None, 2, 2, 2, 2, 2])
        self.assertEqual([roads.last(place, "zz") for place in range(7)], [None] * 6 + [6])
        due = [None, 1, 1, None, 1, "1", "1"]
        self.assertEqual(plain([roads.walked(place, "a") for place in range(7)]), plain(due))
        self.assertEqual(plain([roads.looked(place, "a") for place in range(7)]), plain(due))
        self.assertEqual(plain(roads.all_at(6)), plain([("a", "1"), ("b", 2)]))
        self.assertEqual(plain(roads.all_at(3)), plain([("b", 2)]))
        self.assertEqual([roads.cost(place) for place in range(7)], [0, 1, 2, 0, 2, 2, 0])
        self.assertEqual(roads.table(6), roads.table(5))

    def test_meeting_between_and_unlike(self):
        roads = fork_in_the_road()
        self.assertEqual((roads.meeting(4, 6), roads.meeting(6, 4)), (2, 2))
        self.assertEqual((roads.meeting(1, 4), roads.meeting(4, 1)), (1, 1))
        self.assertEqual((roads.meeting(4, 4), roads.meeting(0, 6)), (4, 0))
        self.assertEqual(plain(roads.between(1, 4)), plain([2, 3, 4]))
        self.assertEqual(roads.between(0, 6), [1, 2, 5, 6])
        self.assertEqual(plain(roads.between(6, 6)), plain([]))
        for early, late in ((4, 1), (3, 6), (6, 4), (5, 0)):
            refusal(self, NotBehind, early, roads.between, early, late)
        self.assertEqual(plain(roads.unlike(4, 6)), plain(["a"]))
        self.assertEqual(roads.unlike(2, 4), [])
        self.assertEqual(roads.unlike(0, 6), ["a", "b"])
        self.assertEqual(roads.unlike(3, 2), ["a"])

    def test_steps_that_change_nothing_make_a_place_all_the_same(self):
        roads = Roads()
        one = roads.put(0, "a", "")
        made = roads.store().made()
        again = roads.put(one, "a", "")
        gone = roads.clear(again, "b")
        self.assertEqual((again, gone), (2, 3))
        for place in (again, gone):
            self.assertEqual((roads.table(place), roads.cost(place)), (roads.table(one), 0))
        self.assertEqual(roads.store().made(), made)
        self.assertEqual((roads.last(gone, "a"), roads.last(gone, "b")), (2, 3))
        self.assertEqual(roads.clear(0, "a"), 4)
        self.assertEqual((roads.table(4), roads.cost(4), roads.step(4)), (0, 0, ("clear", "a")))

    def test_table_0_where_nothing_is_set_any_more(self):
        roads = Roads()
        place = roads.put(roads.put(0, "a", 1), "e", 2)
        place = roads.clear(roads.clear(place, "a"), "e")
        self.assertEqual(plain((roads.table(place), roads.all_at(place))), plain((0, [])))

    def test_the_costs_of_steps(self):
        roads = Roads()
        place = roads.put(0, "a", 1)
        self.assertEqual(roads.cost(place), 1)
        place = roads.put(place, "wzzz", 1)
        self.assertEqual(plain(roads.cost(place)), plain(6))
        place = roads.put(place, "wzzz", 2)
        self.assertEqual(roads.cost(place), 6)
        place = roads.clear(place, "wzzz")
        self.assertEqual(roads.cost(place), 0)
        place = roads.put(roads.put(place, "e", 1), "b", 1)
        self.assertEqual([roads.cost(at) for at in (place - 1, place)], [3, 2])
        place = roads.clear(place, "e")
        self.assertEqual(roads.cost(place), 1)


class Drawn(unittest.TestCase):
    def check_place(self, roads, rows, place, names):
        ahead, step, values = rows[place]
        road = road_due(rows, place)
        told = [roads.ahead(place), roads.step(place), roads.length(place), roads.road(place), roads.all_at(place)]
        due = [ahead, step, len(road) - 1, road, rising(values)]
        for name in names:
            told += [roads.last(place, name), roads.walked(place, name), roads.looked(place, name)]
            due += [last_due(rows, place, name), values.get(name), values.get(name)]
        self.assertEqual(plain(told), plain(due))
        self.assertEqual(roads.store().pairs(roads.table(place)), rising(values))

    def check_two(self, roads, rows, one, other):
        first, second = road_due(rows, one), road_due(rows, other)
        self.assertEqual(plain(roads.meeting(one, other)), plain(max(set(first) & set(second))))
        self.assertEqual(plain(roads.unlike(one, other)), plain(unlike_due(rows[one][2], rows[other][2])))
        if one in second:
            self.assertEqual(plain(roads.between(one, other)), plain(second[second.index(one) + 1:]))
        else:
            refusal(self, NotBehind, one, roads.between, one, other)

    def check_tables(self, roads, rows):
        """Tables and costs are those of a store by itself that does the same deeds."""
        store = Store()
        tables = [0]
        for place in range(1, len(rows)):
            ahead, step, values = rows[place]
            before = store.made()
            tables.append(do(store, tables[ahead], step[1], step[2] if step[0] == "set" else None))
            self.assertEqual(plain(roads.cost(place)), plain(store.made() - before))
            self.assertEqual(roads.cost(place), len(fresh(store, [tables[ahead]], [tables[place]])))
        self.assertEqual(plain([roads.table(place) for place in range(len(rows))]), plain(tables))

    def test_drawn_steps(self):
        for at, (word, names) in enumerate(POOLS):
            with self.subTest(names=word):
                roads = Roads()
                drawn = random.Random(at)
                rows = draw_roads(roads, names, 120, at)
                self.assertEqual(roads.places(), 121)
                for place in range(121):
                    self.check_place(roads, rows, place, drawn.sample(names, min(len(names), 4)) + ["nowhere"])
                    self.check_two(roads, rows, place, drawn.randrange(121))
                    self.check_two(roads, rows, drawn.choice(road_due(rows, place)), place)
                self.check_tables(roads, rows)

    def test_four_hundred_places_on_one_road(self):
        roads = Roads()
        place = 0
        names = POOLS[4][1]
        for at in range(399):
            place = roads.put(place, names[at % 110], VALUES[at % len(VALUES)])
        self.assertEqual((roads.places(), place, roads.length(place)), (400, 399, 399))
        self.assertEqual(roads.road(place), list(range(400)))
        self.assertEqual(len(roads.all_at(place)), 110)
        self.assertIsNone(roads.last(place, "nowhere"))
        self.assertEqual(roads.last(399, names[0]), 331)
        self.assertEqual(roads.between(0, 399), list(range(1, 400)))
        for at in range(1, 400, 37):
            self.assertEqual(plain(roads.walked(399, names[at % 110])), plain(roads.looked(399, names[at % 110])))

    def test_four_hundred_drawn_places(self):
        roads = Roads()
        rows = draw_roads(roads, POOLS[4][1], 399, 77)
        drawn = random.Random(1)
        for place in range(0, 400, 9):
            self.check_place(roads, rows, place, drawn.sample(POOLS[4][1], 5))
            self.check_two(roads, rows, place, drawn.randrange(400))
        self.check_tables(roads, rows)

    def test_what_is_put_into_the_store_besides_changes_nothing(self):
        names = POOLS[2][1]
        roads, calm = Roads(), Roads()
        rows = draw_roads(roads, names, 60, 5)
        draw_roads(calm, names, 60, 5)
        store = roads.store()
        before = [told_of(roads, place, names) for place in range(61)]
        for place in range(61):
            table = store.put(roads.table(place), names[place % 5], "besides")
            store.without(table, names[place % 7])
            store.put(0, "a", place)
        self.assertEqual([told_of(roads, place, names) for place in range(61)], before)
        self.assertEqual(roads.places(), 61)
        for place in range(61):
            new, due = roads.put(place, names[0], "later"), calm.put(place, names[0], "later")
            self.assertEqual((new, roads.cost(new)), (due, calm.cost(due)))
            self.assertEqual(roads.all_at(new), calm.all_at(due))
        self.assertEqual(rows[0], (None, None, {}))


class Refused(unittest.TestCase):
    def deeds_of_one(self, roads):
        return [
            lambda place: roads.put(place, "a", 1), lambda place: roads.clear(place, "a"), roads.ahead, roads.step,
            roads.length, roads.road, lambda place: roads.last(place, "a"), lambda place: roads.walked(place, "a"),
            roads.table, lambda place: roads.looked(place, "a"), roads.all_at, roads.cost,
        ]

    def deeds_of_two(self, roads):
        return [roads.meeting, roads.between, roads.unlike]

    def test_what_is_no_place(self):
        for roads in (Roads(), fork_in_the_road()):
            for wrong in NONE_OF_THEM + [roads.places(), roads.places() + 1]:
                for deed in self.deeds_of_one(roads):
                    refusal(self, NoPlace, wrong, deed, wrong)
                for deed in self.deeds_of_two(roads):
                    refusal(self, NoPlace, wrong, deed, wrong, 0)
                    refusal(self, NoPlace, wrong, deed, 0, wrong)
                    refusal(self, NoPlace, wrong, deed, wrong, wrong)

    def test_the_first_that_is_none_goes_ahead_of_all_else(self):
        roads = fork_in_the_road()
        wrongs = NONE_OF_THEM + [roads.places()]
        for first in wrongs:
            for second in wrongs:
                for deed in self.deeds_of_two(roads):
                    refusal(self, NoPlace, first, deed, first, second)
            refusal(self, NoPlace, first, roads.between, 4, first)
            refusal(self, NoPlace, first, roads.between, first, 4)

    def test_a_refusal_changes_nothing(self):
        roads, calm = fork_in_the_road(), fork_in_the_road()
        self.assertEqual(roads.places(), calm.places())
        for wrong in NONE_OF_THEM + [7, 8]:
            for deed in self.deeds_of_one(roads):
                refusal(self, NoPlace, wrong, deed, wrong)
        refusal(self, NotBehind, 4, roads.between, 4, 6)
        self.assertEqual((roads.places(), roads.store().made()), (calm.places(), calm.store().made()))
        for place in range(7):
            self.assertEqual(told_of(roads, place, ["a", "b", "zz"]), told_of(calm, place, ["a", "b", "zz"]))
        self.assertEqual((roads.put(6, "e", 1), roads.table(7)), (calm.put(6, "e", 1), calm.table(7)))


class TheAskersOwn(unittest.TestCase):
    def test_lists_that_were_told_may_be_changed(self):
        roads = fork_in_the_road()
        asks = [
            lambda: roads.road(6), lambda: roads.road(0), lambda: roads.all_at(6), lambda: roads.all_at(0),
            lambda: roads.between(1, 6), lambda: roads.between(6, 6), lambda: roads.unlike(0, 6),
        ]
        change_lists(self, asks)
        self.assertEqual(told_of(roads, 6, ["a", "b"]), told_of(fork_in_the_road(), 6, ["a", "b"]))

    def test_the_store_itself_is_told(self):
        roads = Roads()
        store = roads.store()
        place = roads.put(0, "a", 1)
        self.assertEqual(store.pairs(roads.table(place)), [("a", 1)])
        self.assertIs(roads.store(), store)

    def test_two_roads_by_turns(self):
        both = (Roads(), Roads())
        drawn = random.Random(31)
        names = POOLS[3][1]
        deeds = ([], [])
        for turn in range(120):
            at = drawn.randrange(2)
            deed = (drawn.randrange(both[at].places()), drawn.choice(names), drawn.choice(VALUES))
            deeds[at].append(deed)
            self.assertEqual(both[at].put(*deed), len(deeds[at]))
        for at in range(2):
            alone = Roads()
            for deed in deeds[at]:
                alone.put(*deed)
            self.assertEqual(both[at].store().made(), alone.store().made())
            for place in range(alone.places()):
                self.assertEqual(told_of(both[at], place, names), told_of(alone, place, names))


if __name__ == "__main__":
    unittest.main()
