"""Lookouts: point [15], and what [2] and [3] say of them."""

import random
import unittest

from helper import (
    POOLS, VALUES, HallDue, change_lists, draw_deed, looks_due, outcome, plain, refusal, told_of_hall, unlike_due,
)
from roadsettings.diffs import differing
from roadsettings.errors import AtHome, Busy, Elsewhere, NoSetting, NoToken, NoWatcher, NoWorld, OutOfTurn, Used
from roadsettings.hall import Hall
from roadsettings.lookout import Lookout

NAMES = ["a", "b", "c", "e", "wzzz"]


def hall_with(names=tuple(NAMES), default=None):
    hall = Hall()
    for name in names:
        hall.declare(name, default)
    return hall


class LookoutDue:
    """What [15] asks of a lookout, in plain lists of the test's own."""

    def __init__(self):
        self.names = []
        self.unheard = []
        self.looks = 0

    def there(self):
        return [(watcher, name) for watcher, name in enumerate(self.names) if name is not None]

    def hear(self, world, old, new):
        """News of the two dicts of values ahead of a deed and behind it."""
        for changed in unlike_due(old, new):
            for watcher, name in self.there():
                if name == changed:
                    self.unheard.append((watcher, world, name, old.get(name), new.get(name)))


class Watchers(unittest.TestCase):
    def test_watchers_of_one_name_and_of_several(self):
        lookout = Lookout(hall_with())
        self.assertEqual(plain((lookout.watched(), lookout.news(), lookout.looks())), plain(([], [], 0)))
        self.assertEqual(plain([lookout.watch(name) for name in ("b", "a", "b", "b")]), plain([0, 1, 2, 3]))
        self.assertEqual(plain(lookout.watched()), plain([(0, "b"), (1, "a"), (2, "b"), (3, "b")]))
        self.assertIsNone(lookout.unwatch(2))
        self.assertEqual(lookout.watched(), [(0, "b"), (1, "a"), (3, "b")])
        lookout.unwatch(3)
        self.assertEqual(lookout.watch("c"), 4)
        self.assertEqual(plain(lookout.watched()), plain([(0, "b"), (1, "a"), (4, "c")]))

    def test_refused_watches_and_unwatches(self):
        lookout = Lookout(hall_with())
        refusal(self, NoSetting, "nowhere", lookout.watch, "nowhere")
        for wrong in (0, -1, 10**6, -(10**29)):
            refusal(self, NoWatcher, wrong, lookout.unwatch, wrong)
        lookout.watch("a")
        lookout.watch("a")
        lookout.unwatch(0)
        for wrong in (0, 2, -1, -2):
            refusal(self, NoWatcher, wrong, lookout.unwatch, wrong)
        self.assertEqual(lookout.watched(), [(1, "a")])
        refusal(self, NoSetting, "d", lookout.watch, "d")
        self.assertEqual(lookout.watch("b"), 2)

    def test_a_name_declared_later_can_be_watched_then(self):
        hall = hall_with()
        lookout = Lookout(hall)
        refusal(self, NoSetting, "late", lookout.watch, "late")
        hall.declare("late", 1)
        self.assertEqual(lookout.watch("late"), 0)


class News(unittest.TestCase):
    def test_of_set_to_and_back(self):
        hall = hall_with(default="default")
        lookout = Lookout(hall)
        for name in ("b", "a", "b"):
            lookout.watch(name)
        token = lookout.set_to("b", 1)
        self.assertEqual(plain(token), plain(0))
        self.assertEqual(plain(lookout.news()), plain([(0, 0, "b", None, 1), (2, 0, "b", None, 1)]))
        self.assertEqual(plain(lookout.news()), plain([]))
        second = lookout.set_to("b", "1")
        self.assertIsNone(lookout.back(second))
        self.assertIsNone(lookout.back(token))
        due = [(at, 0, "b", old, new) for old, new in ((1, "1"), ("1", 1), (1, None)) for at in (0, 2)]
        self.assertEqual(plain(lookout.news()), plain(due))
        self.assertEqual(lookout.looks(), 0)
        self.assertEqual((hall.token(0), hall.token(1)), ((0, "b", None, False), (0, "b", 1, False)))

    def test_none_where_the_value_is_alike(self):
        hall = hall_with(default=1)
        lookout = Lookout(hall)
        lookout.watch("a")
        lookout.set_to("a", 1)
        self.assertEqual(plain(lookout.news()), plain([(0, 0, "a", None, 1)]))
        token = lookout.set_to("a", 1)
        lookout.back(token)
        lookout.set_to("b", 5)
        lookout.enter(hall.copy(0))
        lookout.leave()
        self.assertEqual(lookout.news(), [])
        self.assertEqual(hall.roads().places(), 5)

    def test_of_enter_and_leave(self):
        hall = hall_with()
        lookout = Lookout(hall)
        for name in ("wzzz", "a", "e", "a", "b"):
            lookout.watch(name)
        hall.set_to("a", 1)
        hall.set_to("b", "same")
        copy = hall.copy(0)
        hall.set_to("e", 2)
        hall.set_to("c", 3)
        hall.enter(copy)
        hall.set_to("a", "1")
        hall.set_to("wzzz", 0)
        hall.leave()
        self.assertIsNone(lookout.enter(copy))
        due = [(1, 1, "a", 1, "1"), (3, 1, "a", 1, "1"), (2, 1, "e", 2, None), (0, 1, "wzzz", None, 0)]
        self.assertEqual(plain(lookout.news()), plain(due))
        self.assertIsNone(lookout.leave())
        due = [(1, 0, "a", "1", 1), (3, 0, "a", "1", 1), (2, 0, "e", None, 2), (0, 0, "wzzz", 0, None)]
        self.assertEqual(plain(lookout.news()), plain(due))

    def test_the_world_is_the_one_now_behind_the_deed(self):
        hall = hall_with()
        lookout = Lookout(hall)
        lookout.watch("a")
        first, second = hall.copy(0), hall.copy(0)
        lookout.enter(second)
        lookout.set_to("a", 1)
        lookout.enter(first)
        lookout.set_to("a", 2)
        lookout.leave()
        lookout.leave()
        due = [(2, None, 1), (1, 1, None), (1, None, 2), (2, 2, 1), (0, 1, None)]
        self.assertEqual(plain(lookout.news()), plain([(0, world, "a", old, new) for world, old, new in due]))

    def test_gone_watchers_and_such_as_are_made_behind_a_deed(self):
        lookout = Lookout(hall_with())
        lookout.watch("a")
        lookout.watch("a")
        lookout.set_to("a", 1)
        lookout.unwatch(0)
        lookout.watch("a")
        self.assertEqual(lookout.news(), [(0, 0, "a", None, 1), (1, 0, "a", None, 1)])
        lookout.set_to("a", 2)
        self.assertEqual(lookout.news(), [(1, 0, "a", 1, 2), (2, 0, "a", 1, 2)])

    def test_deeds_of_the_hall_itself_and_of_another_lookout_make_no_news(self):
        hall = hall_with()
        lookout, other = Lookout(hall), Lookout(hall)
        lookout.watch("a")
        other.watch("b")
        other.watch("a")
        hall.set_to("a", 1)
        token = other.set_to("a", 2)
        other.enter(hall.copy(0))
        hall.set_to("a", 3)
        other.leave()
        self.assertEqual((lookout.news(), lookout.looks()), ([], 0))
        self.assertEqual(plain(other.news()), plain([(1, 0, "a", 1, 2), (1, 0, "a", 3, 2)]))
        lookout.back(token)
        self.assertEqual(plain((lookout.news(), other.news())), plain(([(0, 0, "a", 2, 1)], [])))

    def test_refused_deeds_make_no_news_and_no_looks(self):
        hall = hall_with()
        lookout = Lookout(hall)
        for name in NAMES:
            lookout.watch(name)
        used = hall.set_to("a", 1)
        hall.back(used)
        early = hall.set_to("a", 2)
        hall.set_to("a", 3)
        before = told_of_hall(hall, 3, NAMES)
        refusal(self, AtHome, 0, lookout.leave)
        refusal(self, NoWorld, 1, lookout.enter, 1)
        refusal(self, Busy, 0, lookout.enter, 0)
        refusal(self, NoSetting, "nowhere", lookout.set_to, "nowhere", 1)
        refusal(self, NoToken, 3, lookout.back, 3)
        refusal(self, Used, used, lookout.back, used)
        refusal(self, OutOfTurn, early, lookout.back, early)
        self.assertEqual((lookout.news(), lookout.looks()), ([], 0))
        self.assertEqual(told_of_hall(hall, 3, NAMES), before)
        hall.enter(hall.copy(0))
        refusal(self, Elsewhere, early, lookout.back, early)
        self.assertEqual((lookout.news(), lookout.looks()), ([], 0))


class Looks(unittest.TestCase):
    def test_as_differing_counts_them_watched_or_not(self):
        hall = hall_with()
        watching, other = Lookout(hall), Lookout(hall)
        for name in NAMES:
            hall.set_to(name, 1)
            watching.watch(name)
        copy = hall.copy(0)
        other.enter(copy)
        self.assertEqual(other.looks(), 1)
        other.set_to("a", 2)
        other.set_to("wzzz", 2)
        self.assertEqual(other.looks(), 1)
        roads = hall.roads()
        tables = (roads.table(hall.place(1)), roads.table(hall.place(0)))
        due = differing(roads.store(), *tables)[1]
        self.assertGreater(due, 5)
        other.leave()
        self.assertEqual(plain(other.looks()), plain(1 + due))
        watching.enter(copy)
        self.assertEqual((watching.looks(), len(watching.news())), (due, 2))
        watching.leave()
        self.assertEqual((watching.looks(), other.looks()), (2 * due, 1 + due))
        self.assertEqual(watching.looks(), 2 * due)


class Drawn(unittest.TestCase):
    def do(self, hall, due, lookout, lookout_due, deed, things):
        """One deed by a lookout, beside what is due."""
        roads = hall.roads()
        table = roads.table(hall.place(hall.now()))
        values = due.values[due.entered[-1]]
        told = outcome(getattr(lookout, deed), *things)
        self.assertEqual(told, due.outcome(deed, *things))
        if told[0] == "refused":
            return
        lookout_due.hear(due.entered[-1], values, due.values[due.entered[-1]])
        if deed in ("enter", "leave"):
            lookout_due.looks += looks_due(roads.store(), table, roads.table(hall.place(hall.now())))

    def change_watchers(self, drawn, lookout, due, names):
        if drawn.random() < 0.6 and len(due.names) < 20:
            name = drawn.choice(names)
            self.assertEqual(plain(lookout.watch(name)), plain(len(due.names)))
            due.names.append(name)
        elif due.names:
            watcher = drawn.randrange(len(due.names) + 1)
            if watcher in dict(due.there()):
                self.assertIsNone(lookout.unwatch(watcher))
                due.names[watcher] = None
            else:
                refusal(self, NoWatcher, watcher, lookout.unwatch, watcher)

    def check_lookout(self, drawn, lookout, due):
        self.assertEqual(plain((lookout.watched(), lookout.looks())), plain((due.there(), due.looks)))
        if drawn.random() < 0.3:
            self.assertEqual(plain(lookout.news()), plain(due.unheard))
            self.assertEqual(lookout.news(), [])
            due.unheard = []

    def test_two_lookouts_and_the_hall_by_turns(self):
        for seed in range(8):
            drawn = random.Random(seed)
            names = drawn.sample(POOLS[seed % len(POOLS)][1], 5)
            hall, due = hall_with(names, VALUES[seed]), HallDue()
            for name in names:
                due.do("declare", name, VALUES[seed])
            both = [(Lookout(hall), LookoutDue()), (Lookout(hall), LookoutDue())]
            for count in range(200):
                lookout, lookout_due = drawn.choice(both)
                chance = drawn.random()
                deed, *things = draw_deed(drawn, due, names)
                if chance < 0.15:
                    self.change_watchers(drawn, lookout, lookout_due, names)
                elif chance < 0.35 or deed == "copy":
                    self.assertEqual(outcome(getattr(hall, deed), *things), due.outcome(deed, *things))
                else:
                    self.do(hall, due, lookout, lookout_due, deed, things)
                for pair in both:
                    self.check_lookout(drawn, *pair)
            self.assertEqual(told_of_hall(hall, len(due.tokens), names), due.told(names))

    def test_lookouts_of_two_halls_by_turns(self):
        drawn = random.Random(3)
        rows = []
        for at in range(2):
            hall, due = hall_with(), HallDue()
            for name in NAMES:
                due.do("declare", name, None)
            rows.append((hall, due, Lookout(hall), LookoutDue()))
        for count in range(200):
            hall, due, lookout, lookout_due = drawn.choice(rows)
            deed, *things = draw_deed(drawn, due, NAMES)
            if drawn.random() < 0.2:
                self.change_watchers(drawn, lookout, lookout_due, NAMES)
            elif deed == "copy":
                self.assertEqual(outcome(hall.copy, *things), due.outcome(deed, *things))
            else:
                self.do(hall, due, lookout, lookout_due, deed, things)
            for row in rows:
                self.check_lookout(drawn, row[2], row[3])


class AtTheBounds(unittest.TestCase):
    def test_twenty_watchers_of_sixty_settings(self):
        names = [first + second for first in "abcdefghij" for second in "uvwxyz"]
        hall = hall_with(names)
        lookout, due = Lookout(hall), LookoutDue()
        for at in range(20):
            lookout.watch(names[at * 11 % 60])
            due.names.append(names[at * 11 % 60])
        for world in range(19):
            hall.copy(0)
        for world in range(19):
            for name in names[world::4]:
                hall.set_to(name, world)
            hall.enter(world + 1)
        for world in range(18, -1, -1):
            pair = [dict(hall.roads().all_at(hall.place(number))) for number in (hall.now(), world)]
            tables = [hall.roads().table(hall.place(number)) for number in (hall.now(), world)]
            due.hear(world, *pair)
            due.looks += looks_due(hall.roads().store(), *tables)
            lookout.leave()
            self.assertEqual(lookout.looks(), due.looks)
        self.assertGreater(len(due.unheard), 100)
        self.assertEqual(plain(lookout.news()), plain(due.unheard))
        for watcher in range(20):
            lookout.unwatch(watcher)
        self.assertEqual(lookout.watched(), [])
        refusal(self, NoWatcher, 19, lookout.unwatch, 19)
        refusal(self, NoWatcher, 20, lookout.unwatch, 20)


class TheAskersOwn(unittest.TestCase):
    def test_lists_that_were_told_may_be_changed(self):
        lookout = Lookout(hall_with())
        lookout.watch("a")
        lookout.watch("b")
        change_lists(self, [lookout.watched])
        lookout.set_to("a", 1)
        told = lookout.news()
        told.append("more")
        self.assertEqual(lookout.news(), [])
        lookout.set_to("b", 1)
        self.assertEqual(told, [(0, 0, "a", None, 1), "more"])
        self.assertEqual(lookout.news(), [(1, 0, "b", None, 1)])
        none = lookout.news()
        none.append("more")
        self.assertEqual(lookout.news(), [])

    def test_asking_besides_tells_no_news(self):
        hall = hall_with()
        lookout = Lookout(hall)
        lookout.watch("a")
        lookout.set_to("a", 1)
        self.assertEqual((lookout.watched(), lookout.looks(), hall.seen()), ([(0, "a")], 0, [("a", 1)]))
        self.assertEqual((lookout.watched(), lookout.looks(), hall.seen()), ([(0, "a")], 0, [("a", 1)]))
        self.assertEqual(lookout.news(), [(0, 0, "a", None, 1)])


if __name__ == "__main__":
    unittest.main()
