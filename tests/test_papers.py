"""Papers of looks, copies and what lies between: point [10], and what [2] says of it."""

import random
import unittest

from helper import POOLS, VALUES, do, draw_roads, draw_step, nodes_below, plain, refusal, road_due, unlike_due
from roadsettings.errors import NoPlace, NoTable, NotBehind
from roadsettings.papers import between_paper, copy_paper, look_paper, shows_copy, shows_look
from roadsettings.roads import Roads
from roadsettings.store import Store

# Marks: a 1, b 2, aa 3, c 3, e 5, wzzz 257 (which is 1 and 256).
DEEP = (1,)
for turn in range(15):
    DEEP = (DEEP,) if turn & 1 else [DEEP]
NO_PAPERS = [
    None, True, False, 0, 1, -1, "", "0", "10", "(1, 0)", [], [0], [1, 0], (True,), (False,), (None,), ((),), ([],),
    ("0",), ("",), ((0,),), ([0],), (0, None), (-1,), (10**29,), (-(10**29), 0), (1, 0, -1), DEEP, [DEEP], (0, DEEP),
]


def spoiled(paper, most):
    """Papers that are like this one but for one place, its length or its kind."""
    told = list(NO_PAPERS) + [list(paper), (paper,), [paper], paper + (None,), str(paper), paper + ("",)]
    told += [paper + (number,) for number in range(-1, most + 2)]
    told += [(number,) + paper for number in range(-1, most + 2)]
    for at, number in enumerate(paper):
        told.append(paper[:at] + paper[at + 1:])
        told.append(paper[:at])
        others = [number + 1, number - 1, -number - 1, str(number), None, True, False, (number,), [number], most + 5]
        told += [paper[:at] + (other,) + paper[at + 1:] for other in others]
    told += [paper[::-1], paper + paper]
    return [thing for thing in told if plain(thing) != plain(paper)]


def has_name(rows, place, name):
    return rows[place][1] is not None and rows[place][1][1] == name


def shows_look_due(rows, place, name, told, paper):
    """The words of [10] one by one."""
    if not isinstance(paper, tuple) or not paper:
        return False
    if any(plain(thing)[0] != "int" or not 0 <= thing < len(rows) for thing in paper):
        return False
    if paper[0] != place or any(rows[one][0] != other for one, other in zip(paper, paper[1:])):
        return False
    if any(has_name(rows, thing, name) for thing in paper[:-1]):
        return False
    last = rows[paper[-1]][1]
    if last is not None and last[0] == "set" and last[1] == name:
        return plain(last[2]) == plain(told)
    return told is None and (last is None or last == ("clear", name))


class Looks(unittest.TestCase):
    def setUp(self):
        self.roads = Roads()
        one = self.roads.put(0, "a", 1)
        two = self.roads.put(one, "b", "")
        three = self.roads.clear(two, "a")
        four = self.roads.put(three, "c", 0)
        self.roads.put(two, "a", "1")
        self.four = four

    def test_by_hand(self):
        roads = self.roads
        self.assertEqual(plain(look_paper(roads, 0, "a")), plain((0,)))
        self.assertEqual(plain(look_paper(roads, 1, "a")), plain((1,)))
        self.assertEqual(plain(look_paper(roads, 2, "a")), plain((2, 1)))
        self.assertEqual(look_paper(roads, 4, "a"), (4, 3))
        self.assertEqual(look_paper(roads, 4, "b"), (4, 3, 2))
        self.assertEqual(look_paper(roads, 4, "nowhere"), (4, 3, 2, 1, 0))
        self.assertEqual(look_paper(roads, 5, "b"), (5, 2))

    def test_right_papers_are_shown_with_alike_values_alone(self):
        roads = self.roads
        right = [(0, "a", None, (0,)), (2, "a", 1, (2, 1)), (4, "a", None, (4, 3)), (4, "b", "", (4, 3, 2))]
        right += [(4, "c", 0, (4,)), (5, "a", "1", (5,)), (1, "b", None, (1, 0)), (5, "c", None, (5, 2, 1, 0))]
        for place, name, value, paper in right:
            for told in VALUES + [None]:
                due = plain(told) == plain(value)
                self.assertIs(shows_look(roads, place, name, told, paper), due, (place, name, told))
            for wrong in spoiled(paper, 5):
                self.assertIs(shows_look(roads, place, name, value, wrong), False, (place, name, wrong))

    def test_papers_that_end_too_early_or_too_late(self):
        roads = self.roads
        self.assertIs(shows_look(roads, 4, "a", None, (4,)), False)
        self.assertIs(shows_look(roads, 4, "a", 1, (4, 3, 2, 1)), False)
        self.assertIs(shows_look(roads, 4, "a", None, (4, 3, 2, 1, 0)), False)
        self.assertIs(shows_look(roads, 4, "b", None, (4, 3, 2, 1, 0)), False)
        self.assertIs(shows_look(roads, 4, "b", None, (4, 3)), False)
        self.assertIs(shows_look(roads, 4, "b", "", (3, 2)), False)
        self.assertIs(shows_look(roads, 4, "b", "", (4, 2)), False)
        self.assertIs(shows_look(roads, 4, "b", "", ()), False)
        self.assertIs(shows_look(roads, 4, "b", None, ()), False)

    def test_true_is_not_1_and_false_is_not_0(self):
        roads = self.roads
        self.assertIs(shows_look(roads, 1, "a", 1, (1,)), True)
        self.assertIs(shows_look(roads, 1, "a", 1, (True,)), False)
        self.assertIs(shows_look(roads, 0, "a", None, (False,)), False)
        self.assertIs(shows_look(roads, 1, "b", None, (True, 0)), False)
        self.assertIs(shows_look(roads, 1, "b", None, (1, False)), False)
        self.assertIs(shows_look(roads, 1, "b", None, (1, 0)), True)

    def test_drawn_roads(self):
        for at, (word, names) in enumerate(POOLS):
            roads = Roads()
            drawn = random.Random(at)
            rows = draw_roads(roads, names, 60, at)
            for turn in range(60):
                place, name = drawn.randrange(61), drawn.choice(names + ["nowhere"])
                paper = look_paper(roads, place, name)
                back = road_due(rows, place)[::-1]
                stops = [index for index, there in enumerate(back) if has_name(rows, there, name) or there == 0]
                self.assertEqual(plain(paper), plain(tuple(back[: stops[0] + 1])))
                value = rows[place][2].get(name)
                self.assertIs(shows_look(roads, place, name, value, paper), True)
                for told in (value, None, drawn.choice(VALUES)):
                    for other in drawn.sample(spoiled(paper, 60), 40) + [paper]:
                        due = shows_look_due(rows, place, name, told, other)
                        self.assertIs(shows_look(roads, place, name, told, other), due, (place, name, told, other))

    def test_what_is_no_place_is_refused(self):
        for wrong in (-1, 6, 10**9, -(10**9)):
            refusal(self, NoPlace, wrong, look_paper, self.roads, wrong, "a")
            for paper in NO_PAPERS + [(wrong,), (0,), (4, 3)]:
                refusal(self, NoPlace, wrong, shows_look, self.roads, wrong, "a", None, paper)

    def test_asking_changes_nothing(self):
        before = (self.roads.places(), self.roads.store().made())
        for paper in NO_PAPERS:
            shows_look(self.roads, 4, "a", None, paper)
        thing = [4, [3]]
        shows_look(self.roads, 4, "a", None, thing)
        self.assertEqual(thing, [4, [3]])
        self.assertEqual((self.roads.places(), self.roads.store().made()), before)


class Copies(unittest.TestCase):
    def test_by_hand(self):
        roads = Roads()
        store = roads.store()
        one = roads.put(0, "a", 1)
        two = roads.put(one, "wzzz", 2)
        same = roads.put(two, "a", 1)
        gone = roads.clear(two, "wzzz")
        self.assertEqual(plain(copy_paper(roads, one)), plain((1,)))
        self.assertEqual(plain(copy_paper(roads, two)), plain((2, 3, 4, 5, 6, 7)))
        self.assertEqual(sorted(store.way(roads.table(two), "wzzz")), list(copy_paper(roads, two)))
        self.assertEqual(plain(copy_paper(roads, same)), plain(()))
        self.assertEqual(copy_paper(roads, gone), ())

    def test_drawn_steps_are_shown_and_spoiled_papers_are_not(self):
        for at, (word, names) in enumerate(POOLS):
            roads = Roads()
            store = roads.store()
            drawn = random.Random(at)
            place = 0
            for turn in range(50):
                ahead = place if drawn.random() < 0.8 else drawn.randrange(roads.places())
                before = store.made()
                name, value = draw_step(drawn, names)
                place = roads.clear(ahead, name) if value is None else roads.put(ahead, name, value)
                made = tuple(range(before, store.made()))
                paper = copy_paper(roads, place)
                self.assertEqual(plain(paper), plain(made))
                self.assertEqual(len(paper), roads.cost(place))
                old, new = roads.table(ahead), roads.table(place)
                self.assertIs(shows_copy(store, old, new, name, paper), True)
                for wrong in drawn.sample(spoiled(paper, 9), 40):
                    self.assertIs(shows_copy(store, old, new, name, wrong), False, wrong)

    def test_what_is_put_into_the_store_besides_changes_no_paper(self):
        roads = Roads()
        one = roads.put(0, "a", 1)
        roads.store().put(roads.table(one), "e", 1)
        two = roads.put(one, "b", 1)
        roads.store().put(roads.table(two), "e", 1)
        self.assertEqual(copy_paper(roads, one), (1,))
        self.assertEqual(copy_paper(roads, two), (5, 6))

    def test_two_deeds_at_once_are_not_shown(self):
        store = Store()
        old = store.put(store.put(0, "a", 1), "b", 2)
        new = store.put(store.put(old, "a", 3), "b", 4)
        due = tuple(sorted(nodes_below(store, new) - nodes_below(store, old)))
        for name in ("a", "b", "c"):
            self.assertIs(shows_copy(store, old, new, name, due), False)

    def test_names_in_one_leaf_that_both_differ_are_not_shown(self):
        store = Store()
        old = store.put(store.put(0, "aa", 1), "c", 2)
        new = store.put(store.put(old, "aa", 3), "c", 4)
        for name in ("aa", "c"):
            self.assertEqual(store.way(new, name), [new])
            self.assertIs(shows_copy(store, old, new, name, (new,)), False)

    def test_nodes_off_the_way_are_not_shown(self):
        store = Store()
        old = store.put(store.put(0, "a", 1), "b", 2)
        new = store.put(store.put(0, "a", 1), "b", 3)
        due = tuple(sorted(nodes_below(store, new) - nodes_below(store, old)))
        self.assertEqual(len(due), 3)
        self.assertIs(shows_copy(store, old, new, "b", due), False)
        self.assertIs(shows_copy(store, old, new, "b", tuple(store.way(new, "b"))), False)

    def test_another_name_is_not_shown(self):
        store = Store()
        old = store.put(store.put(0, "a", 1), "b", 2)
        new = store.put(old, "c", 3)
        paper = tuple(sorted(nodes_below(store, new) - nodes_below(store, old)))
        self.assertIs(shows_copy(store, old, new, "c", paper), True)
        for name in ("aa", "a", "b", "z"):
            self.assertIs(shows_copy(store, old, new, name, paper), False)

    def test_a_table_and_itself_is_shown_by_the_empty_paper_for_any_name(self):
        store = Store()
        for table in (0, store.put(store.put(0, "a", 1), "b", 2)):
            for name in ("a", "nowhere"):
                self.assertIs(shows_copy(store, table, table, name, ()), True)
                for wrong in spoiled((), store.made()):
                    self.assertIs(shows_copy(store, table, table, name, wrong), False)

    def test_going_back_makes_no_fresh_nodes_but_differs(self):
        store = Store()
        one = store.put(0, "a", 1)
        both = store.put(one, "b", 2)
        self.assertIs(shows_copy(store, both, one, "b", ()), True)
        self.assertIs(shows_copy(store, both, one, "a", ()), False)
        self.assertIs(shows_copy(store, both, 0, "a", ()), False)
        self.assertIs(shows_copy(store, one, 0, "a", ()), True)

    def test_true_is_not_1(self):
        store = Store()
        one = store.put(0, "a", 1)
        self.assertIs(shows_copy(store, 0, one, "a", (1,)), True)
        for wrong in ((True,), [1], ("1",), (1, 1), (0, 1), ()):
            self.assertIs(shows_copy(store, 0, one, "a", wrong), False)

    def test_the_words_one_by_one_on_drawn_tables(self):
        for at, (word, names) in enumerate(POOLS):
            store = Store()
            drawn = random.Random(at)
            told = [(0, {})]
            for deed in range(60):
                table, values = drawn.choice(told[-5:])
                name, value = draw_step(drawn, names)
                changed = {**values, name: value}
                if value is None:
                    del changed[name]
                told.append((do(store, table, name, value), changed))
            for turn in range(200):
                (old, values), (new, others) = drawn.choice(told), drawn.choice(told)
                name = drawn.choice(names)
                paper = tuple(sorted(nodes_below(store, new) - nodes_below(store, old)))
                due = set(paper) <= set(store.way(new, name)) and set(unlike_due(values, others)) <= {name}
                self.assertIs(shows_copy(store, old, new, name, paper), due)

    def test_what_is_no_place_or_no_table_is_refused(self):
        roads = Roads()
        two = roads.put(roads.put(0, "a", 1), "e", 2)
        store = roads.store()
        for wrong in (-1, 3, 10**9, -(10**9)):
            refusal(self, NoPlace, wrong, copy_paper, roads, wrong)
        good = roads.table(two)
        wrongs = store.way(good, "e")[1:] + [-1, store.made(), 10**9]
        for wrong in wrongs:
            for paper in NO_PAPERS + [()]:
                refusal(self, NoTable, wrong, shows_copy, store, wrong, good, "a", paper)
                refusal(self, NoTable, wrong, shows_copy, store, good, wrong, "a", paper)
            for worse in wrongs:
                refusal(self, NoTable, wrong, shows_copy, store, wrong, worse, "a", ())
        self.assertEqual((roads.places(), store.made()), (3, 5))


class Between(unittest.TestCase):
    def test_by_hand(self):
        roads = Roads()
        one = roads.put(0, "a", 1)
        two = roads.put(one, "b", 1)
        three = roads.clear(two, "a")
        four = roads.put(three, "a", 1)
        side = roads.put(two, "a", 5)
        self.assertEqual(plain(between_paper(roads, 0, four, "a")), plain((one, three, four)))
        self.assertEqual(plain(between_paper(roads, one, four, "a")), plain((three, four)))
        self.assertEqual(between_paper(roads, 0, side, "a"), (one, side))
        self.assertEqual(between_paper(roads, two, three, "b"), ())
        self.assertEqual(plain(between_paper(roads, four, four, "a")), plain(()))
        self.assertEqual(between_paper(roads, 0, four, "nowhere"), ())
        self.assertEqual(between_paper(roads, 0, 0, "a"), ())
        for early, late in ((four, one), (three, side), (side, four), (one, 0)):
            refusal(self, NotBehind, early, between_paper, roads, early, late, "a")

    def test_drawn_roads(self):
        for at, (word, names) in enumerate(POOLS):
            roads = Roads()
            drawn = random.Random(at)
            rows = draw_roads(roads, names[:8], 60, at)
            for turn in range(80):
                late, name = drawn.randrange(61), drawn.choice(names[:8])
                road = road_due(rows, late)
                early = drawn.choice([drawn.choice(road), drawn.randrange(61)])
                if early in road:
                    behind = road[road.index(early) + 1:]
                    due = tuple(place for place in behind if has_name(rows, place, name))
                    self.assertEqual(plain(between_paper(roads, early, late, name)), plain(due))
                else:
                    refusal(self, NotBehind, early, between_paper, roads, early, late, name)

    def test_what_is_no_place_is_refused_first(self):
        roads = Roads()
        one = roads.put(0, "a", 1)
        for wrong in (-1, 2, 10**9):
            refusal(self, NoPlace, wrong, between_paper, roads, wrong, one, "a")
            refusal(self, NoPlace, wrong, between_paper, roads, one, wrong, "a")
            for worse in (-1, 2, 10**9):
                refusal(self, NoPlace, wrong, between_paper, roads, wrong, worse, "a")
        self.assertEqual(roads.places(), 2)


if __name__ == "__main__":
    unittest.main()
