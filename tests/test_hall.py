"""Halls, their worlds and their tokens: points [11] to [14], [1] (b) and (d), and what [2] and [3] say of them."""

import random
import unittest

from helper import POOLS, VALUES, HallDue, change_lists, draw_deed, outcome, plain, refusal, told_of_hall
from roadsettings.errors import AtHome, Busy, Elsewhere, Known, Missing, NoSetting, NoToken, NoWorld, OutOfTurn, Used
from roadsettings.hall import Hall
from roadsettings.roads import Roads

NAMES = ["a", "b", "c", "aa", "e", "wzzz", "set", "zzzzzzzz"]
DEFAULTS = [None, 0, "0", "", None, -5, "it's", None]
NONE_OF_THEM = [-1, -2, 10**6, -(10**6), 10**29, -(10**29)]


def hall_with(settings=tuple(zip(NAMES, DEFAULTS))):
    hall = Hall()
    for name, default in settings:
        hall.declare(name, default)
    return hall


def value_in(hall, world, name):
    """The value in a world without defaults, as the hall's roads tell it."""
    roads = hall.roads()
    value = roads.looked(hall.place(world), name)
    if plain(value) != plain(roads.walked(hall.place(world), name)):
        raise AssertionError((world, name, value))
    return value


class AtFirst(unittest.TestCase):
    def test_a_new_hall(self):
        hall = Hall()
        self.assertEqual(plain([hall.settings(), hall.worlds(), hall.place(0), hall.now()]), plain([[], 1, 0, 0]))
        self.assertEqual(plain([hall.entered(), hall.seen(), hall.open_tokens(0)]), plain([[0], [], []]))
        self.assertIsInstance(hall.roads(), Roads)
        self.assertEqual(hall.roads().places(), 1)
        refusal(self, NoToken, 0, hall.token, 0)
        refusal(self, NoSetting, "a", hall.look, "a")
        refusal(self, AtHome, 0, hall.leave)


class Settings(unittest.TestCase):
    def test_defaults_of_both_kinds_and_none_in_the_order_of_declaring(self):
        hall = Hall()
        rows = [("zoo", 0), ("b", "0"), ("a", None), ("e", ""), ("c", -(10**30) + 1), ("d", "x" * 40)]
        for at, (name, default) in enumerate(rows):
            self.assertIsNone(hall.declare(name, default))
            self.assertEqual(plain(hall.settings()), plain(rows[:at + 1]))
        self.assertEqual(plain(hall.seen()), plain([row for row in rows if row[0] != "a"]))

    def test_known_and_all_is_as_it_was(self):
        hall, calm = hall_with(), hall_with()
        for name in NAMES:
            for default in (None, 7, "", dict(zip(NAMES, DEFAULTS))[name]):
                refusal(self, Known, name, hall.declare, name, default)
        self.assertEqual(told_of_hall(hall, 0, NAMES + ["x"]), told_of_hall(calm, 0, NAMES + ["x"]))
        hall.declare("x", 1)
        self.assertEqual(hall.settings()[-1], ("x", 1))

    def test_a_setting_declared_late(self):
        hall = hall_with([("a", None)])
        hall.set_to("a", 1)
        hall.enter(hall.copy(0))
        refusal(self, NoSetting, "b", hall.set_to, "b", 1)
        hall.declare("b", "later")
        self.assertEqual(
            (hall.look("b"), hall.look_in(0, "b"), hall.seen()), ("later", "later", [("a", 1), ("b", "later")]),
        )


class Worlds(unittest.TestCase):
    def test_copies_enters_and_leaves(self):
        hall = hall_with()
        hall.set_to("a", 1)
        self.assertEqual(plain([hall.copy(0), hall.copy(1), hall.copy(0), hall.worlds()]), plain([1, 2, 3, 4]))
        self.assertEqual([hall.place(world) for world in range(4)], [1, 1, 1, 1])
        self.assertEqual((hall.now(), hall.entered()), (0, [0]))
        self.assertIsNone(hall.enter(2))
        self.assertIsNone(hall.enter(1))
        self.assertEqual(plain((hall.now(), hall.entered())), plain((1, [0, 2, 1])))
        self.assertIsNone(hall.leave())
        self.assertEqual((hall.now(), hall.entered()), (2, [0, 2]))
        hall.leave()
        self.assertEqual((hall.now(), hall.entered(), hall.worlds()), (0, [0], 4))
        hall.enter(1)
        self.assertEqual(hall.entered(), [0, 1])

    def test_a_world_and_its_copy_never_hear_of_one_another(self):
        hall = hall_with()
        hall.set_to("a", 1)
        copy = hall.copy(0)
        hall.set_to("a", 2)
        hall.set_to("e", "old side")
        self.assertEqual((value_in(hall, copy, "a"), value_in(hall, copy, "e")), (1, None))
        hall.enter(copy)
        token = hall.set_to("b", "new side")
        hall.set_to("a", 3)
        self.assertEqual((hall.look_in(0, "a"), hall.look_in(copy, "a")), (2, 3))
        self.assertEqual((hall.look_in(0, "b"), hall.look_in(copy, "b")), (0, "new side"))
        hall.back(token)
        self.assertEqual((hall.look_in(copy, "b"), hall.look_in(0, "e")), (0, "old side"))
        refusal(self, Missing, "e", hall.look_in, copy, "e")

    def test_no_world_busy_and_at_home(self):
        hall, calm = hall_with(), hall_with()
        for each in (hall, calm):
            each.enter(each.copy(0))
            each.copy(1)
        for wrong in NONE_OF_THEM + [3, 4]:
            for deed in (hall.place, hall.copy, hall.enter, hall.open_tokens):
                refusal(self, NoWorld, wrong, deed, wrong)
            refusal(self, NoWorld, wrong, hall.look_in, wrong, "a")
            refusal(self, NoWorld, wrong, hall.look_in, wrong, "nowhere")
        for world in (0, 1):
            refusal(self, Busy, world, hall.enter, world)
        self.assertEqual(told_of_hall(hall, 0, NAMES), told_of_hall(calm, 0, NAMES))
        hall.leave()
        refusal(self, AtHome, 0, hall.leave)
        self.assertEqual((hall.entered(), hall.now(), hall.worlds()), ([0], 0, 3))

    def test_a_copy_of_a_world_that_isn_t_now(self):
        hall = hall_with()
        first = hall.copy(0)
        hall.enter(first)
        hall.set_to("a", 1)
        hall.leave()
        hall.set_to("a", 2)
        copy = hall.copy(first)
        self.assertEqual((hall.place(copy), hall.look_in(copy, "a")), (hall.place(first), 1))
        self.assertEqual(hall.open_tokens(copy), [])


class SetAndBack(unittest.TestCase):
    def test_the_token_s_world_name_and_old_value(self):
        hall = hall_with()
        self.assertEqual(plain(hall.set_to("b", 1)), plain(0))
        self.assertEqual(plain(hall.token(0)), plain((0, "b", None, True)))
        hall.set_to("b", "1")
        self.assertEqual(plain(hall.token(1)), plain((0, "b", 1, True)))
        hall.enter(hall.copy(0))
        hall.set_to("b", "")
        self.assertEqual(plain(hall.token(2)), plain((1, "b", "1", True)))
        hall.set_to("b", 0)
        self.assertEqual(plain(hall.token(3)), plain((1, "b", "", True)))
        self.assertEqual(plain(hall.set_to("a", 0)), plain(4))
        self.assertEqual(plain(hall.token(4)), plain((1, "a", None, True)))

    def test_values_are_put_back_or_cleared(self):
        hall = hall_with()
        for old in VALUES:
            first = hall.set_to("a", old)
            second = hall.set_to("a", "new")
            self.assertIsNone(hall.back(second))
            self.assertEqual(plain(hall.look("a")), plain(old))
            self.assertEqual(plain(hall.roads().step(hall.place(0))), plain(("set", "a", old)))
            hall.back(first)
            refusal(self, Missing, "a", hall.look, "a")
            self.assertEqual(hall.roads().step(hall.place(0)), ("clear", "a"))
            self.assertEqual(plain(hall.token(first)), plain((0, "a", None, False)))
            self.assertEqual(plain(hall.token(second)), plain((0, "a", old, False)))

    def test_each_goes_one_step_further_also_where_nothing_changes(self):
        hall = hall_with()
        first = hall.set_to("a", 1)
        second = hall.set_to("a", 1)
        self.assertEqual(plain(hall.token(second)), plain((0, "a", 1, True)))
        hall.back(second)
        self.assertEqual((hall.place(0), hall.roads().places()), (3, 4))
        self.assertEqual(hall.roads().road(3), [0, 1, 2, 3])
        hall.back(first)
        self.assertEqual((hall.place(0), hall.roads().road(4)), (4, [0, 1, 2, 3, 4]))
        self.assertEqual(hall.roads().cost(3), 0)

    def test_a_default_is_there_again_behind_back(self):
        hall = hall_with()
        token = hall.set_to("c", "set")
        self.assertEqual(hall.look("c"), "set")
        hall.back(token)
        self.assertEqual(plain((hall.look("c"), hall.look_or("c", None))), plain(("0", None)))

    def test_out_of_turn_and_in_turn(self):
        hall = hall_with()
        first, other, second, third = [hall.set_to(name, at) for at, name in enumerate(["a", "b", "a", "a"])]
        self.assertEqual([hall.in_turn(token) for token in (first, other, second, third)], [third, other, third, third])
        for token in (first, second):
            refusal(self, OutOfTurn, token, hall.back, token)
        hall.back(other)
        self.assertIsNone(hall.in_turn(other))
        hall.back(third)
        self.assertEqual(plain([hall.in_turn(token) for token in (first, second, third)]), plain([second] * 3))
        refusal(self, OutOfTurn, first, hall.back, first)
        hall.back(second)
        self.assertEqual((hall.in_turn(third), hall.look("a")), (first, 0))
        hall.back(first)
        self.assertEqual([hall.in_turn(token) for token in range(4)], [None] * 4)

    def test_tokens_of_a_copy_are_its_own(self):
        hall = hall_with()
        first = hall.set_to("a", 1)
        hall.enter(hall.copy(0))
        second = hall.set_to("a", 2)
        self.assertEqual((hall.open_tokens(0), hall.open_tokens(1)), ([first], [second]))
        self.assertEqual((hall.in_turn(first), hall.in_turn(second)), (first, second))
        refusal(self, Elsewhere, first, hall.back, first)
        hall.leave()
        hall.back(first)
        refusal(self, Elsewhere, second, hall.back, second)
        self.assertEqual((hall.look_in(1, "a"), hall.open_tokens(0), hall.open_tokens(1)), (2, [], [second]))

    def test_the_order_of_the_refusals(self):
        hall = hall_with()
        used = hall.set_to("a", 1)
        hall.back(used)
        early, late = hall.set_to("a", 2), hall.set_to("a", 3)
        for wrong in NONE_OF_THEM + [3]:
            for deed in (hall.back, hall.token, hall.in_turn):
                refusal(self, NoToken, wrong, deed, wrong)
        refusal(self, Used, used, hall.back, used)
        refusal(self, OutOfTurn, early, hall.back, early)
        hall.enter(hall.copy(0))
        refusal(self, Used, used, hall.back, used)
        refusal(self, Elsewhere, early, hall.back, early)
        refusal(self, Elsewhere, late, hall.back, late)
        hall.leave()
        hall.back(late)
        hall.back(early)
        self.assertEqual(hall.open_tokens(0), [])

    def test_refused_sets_and_backs_change_nothing_at_all(self):
        hall, calm = hall_with(), hall_with()
        for each in (hall, calm):
            each.back(each.set_to("a", 1))
            each.set_to("a", 2)
            each.set_to("a", 3)
            each.enter(each.copy(0))
            each.set_to("a", 4)
        for kind, token in ((NoToken, 4), (NoToken, -1), (Used, 0), (Elsewhere, 1), (Elsewhere, 2)):
            refusal(self, kind, token, hall.back, token)
        refusal(self, NoSetting, "nowhere", hall.set_to, "nowhere", 1)
        self.assertEqual(told_of_hall(hall, 4, NAMES), told_of_hall(calm, 4, NAMES))
        self.assertEqual(hall.roads().store().made(), calm.roads().store().made())
        self.assertEqual((hall.set_to("b", 1), hall.place(1)), (calm.set_to("b", 1), calm.place(1)))


class Looks(unittest.TestCase):
    def test_values_on_the_road_of_the_copied_world_and_defaults(self):
        hall = hall_with()
        hall.set_to("a", "first")
        hall.enter(hall.copy(0))
        hall.enter(hall.copy(1))
        self.assertEqual(hall.look("a"), "first")
        self.assertEqual(plain([hall.look(name) for name in ("b", "c", "aa", "wzzz")]), plain([0, "0", "", -5]))
        for name in ("e", "zzzzzzzz"):
            refusal(self, Missing, name, hall.look, name)
            refusal(self, Missing, name, hall.look_in, 1, name)
        refusal(self, NoSetting, "nowhere", hall.look, "nowhere")
        refusal(self, NoSetting, "nowhere", hall.look_or, "nowhere", 1)
        refusal(self, NoSetting, "nowhere", hall.look_in, 1, "nowhere")
        refusal(self, NoWorld, 3, hall.look_in, 3, "nowhere")

    def test_look_or_doesn_t_count_the_default(self):
        hall = hall_with()
        for other in (None, 0, "0", "", "other"):
            for name in NAMES:
                self.assertEqual(plain(hall.look_or(name, other)), plain(other))
        hall.set_to("b", "")
        self.assertEqual(plain(hall.look_or("b", 5)), plain(""))
        hall.set_to("b", 0)
        self.assertEqual(plain(hall.look_or("b", 5)), plain(0))

    def test_values_that_look_alike(self):
        hall = hall_with()
        for value in (0, "0", "", "None", -1, "-1", " "):
            hall.set_to("a", value)
            self.assertEqual(plain((hall.look("a"), hall.look_in(0, "a"))), plain((value, value)))
            self.assertIn(plain(("a", value)), [plain(pair) for pair in hall.seen()])

    def test_seen_in_the_order_of_declaring(self):
        hall = hall_with()
        due = [(name, default) for name, default in zip(NAMES, DEFAULTS) if default is not None]
        self.assertEqual(plain(hall.seen()), plain(due))
        hall.set_to("zzzzzzzz", 1)
        hall.set_to("a", "")
        token = hall.set_to("c", "new")
        due = [("a", ""), ("b", 0), ("c", "new"), ("aa", ""), ("wzzz", -5), ("set", "it's"), ("zzzzzzzz", 1)]
        self.assertEqual(plain(hall.seen()), plain(due))
        hall.back(token)
        self.assertEqual(plain(hall.seen()[2]), plain(("c", "0")))
        hall.enter(hall.copy(0))
        self.assertEqual(hall.seen()[-1], ("zzzzzzzz", 1))


class RoadsOfTheHall(unittest.TestCase):
    def test_what_is_put_there_besides_changes_no_world(self):
        hall = hall_with()
        hall.set_to("a", 1)
        hall.copy(0)
        roads = hall.roads()
        self.assertIs(hall.roads(), roads)
        before = told_of_hall(hall, 1, NAMES)
        besides = roads.put(roads.put(hall.place(0), "a", "besides"), "b", "besides")
        roads.clear(hall.place(1), "a")
        roads.store().put(roads.table(1), "a", "besides")
        self.assertEqual(told_of_hall(hall, 1, NAMES)[:-1], before[:-1])
        token = hall.set_to("e", 5)
        self.assertEqual(roads.places(), 6)
        self.assertEqual((hall.place(0), roads.ahead(hall.place(0))), (5, 1))
        hall.back(token)
        self.assertEqual((roads.road(hall.place(0)), roads.length(besides)), ([0, 1, 5, 6], 3))
        self.assertEqual((hall.look("a"), hall.look("b")), (1, 0))

    def test_what_looked_and_walked_tell_there(self):
        hall = hall_with()
        first = hall.set_to("a", 1)
        hall.set_to("b", "two")
        hall.enter(hall.copy(0))
        hall.set_to("a", 3)
        hall.leave()
        hall.back(first)
        self.assertEqual([value_in(hall, 0, name) for name in NAMES], [None, "two"] + [None] * 6)
        self.assertEqual([value_in(hall, 1, name) for name in NAMES], [3, "two"] + [None] * 6)
        roads = hall.roads()
        self.assertEqual(roads.all_at(hall.place(1)), [("a", 3), ("b", "two")])
        self.assertEqual(roads.meeting(hall.place(0), hall.place(1)), 2)


class Drawn(unittest.TestCase):
    def start(self, names, drawn):
        hall, due = Hall(), HallDue()
        for name in names[:-1]:
            default = drawn.choice(VALUES + [None] * 8)
            hall.declare(name, default)
            due.do("declare", name, default)
        return hall, due

    def check_hall(self, hall, due, names):
        self.assertEqual(told_of_hall(hall, len(due.tokens), names), due.told(names))
        for world, values in enumerate(due.values):
            for name in names:
                self.assertEqual(plain(value_in(hall, world, name)), plain(values.get(name)))

    def test_drawn_deeds_beside_rows_of_the_test_s_own(self):
        met = {}
        for seed in range(6):
            drawn = random.Random(seed)
            names = drawn.sample(POOLS[seed % len(POOLS)][1], 4) if seed else NAMES[:4]
            hall, due = self.start(names, drawn)
            for count in range(160):
                deed, *things = draw_deed(drawn, due, names)
                told = outcome(getattr(hall, deed), *things)
                self.assertEqual(told, due.outcome(deed, *things), (deed, things))
                met[deed, told[1] if told[0] == "refused" else ""] = True
                self.check_hall(hall, due, names)
        kinds = {kind for deed, kind in met}
        self.assertEqual(
            kinds, {"", "NoSetting", "NoWorld", "Busy", "AtHome", "NoToken", "Used", "Elsewhere", "OutOfTurn"},
        )

    def test_back_of_few_tokens_in_every_order(self):
        drawn = random.Random(71)
        for seed in range(40):
            hall, due = self.start(["a", "b", "c"], drawn)
            for deed in ([("copy", 0), ("enter", 1)] if seed % 2 else []):
                self.assertEqual(outcome(getattr(hall, deed[0]), deed[1]), due.outcome(*deed))
            for count in range(5):
                deed = ("set_to", drawn.choice(["a", "b"]), drawn.choice(VALUES))
                self.assertEqual(outcome(hall.set_to, *deed[1:]), due.outcome(*deed))
                if seed % 2 and count == 2:
                    self.assertEqual(outcome(hall.leave), due.outcome("leave"))
            order = list(range(5))
            drawn.shuffle(order)
            for token in order + order + order:
                self.assertEqual(outcome(hall.back, token), due.outcome("back", token))
                self.check_hall(hall, due, ["a", "b"])

    def test_what_is_put_besides_between_drawn_deeds(self):
        drawn = random.Random(9)
        names = POOLS[3][1][:4]
        hall, due = self.start(names, drawn)
        for count in range(150):
            deed, *things = draw_deed(drawn, due, names)
            self.assertEqual(outcome(getattr(hall, deed), *things), due.outcome(deed, *things))
            if drawn.random() < 0.3:
                hall.roads().put(drawn.randrange(due.places), drawn.choice(names), "besides")
                due.places += 1
            self.check_hall(hall, due, names)


class AtTheBounds(unittest.TestCase):
    def test_a_hall_as_large_as_it_may_be(self):
        names = [first + second for first in "abcdefghij" for second in "uvwxyz"]
        hall, due = Hall(), HallDue()
        for at, name in enumerate(names):
            hall.declare(name, VALUES[at % 15] if at % 3 else None)
            due.do("declare", name, VALUES[at % 15] if at % 3 else None)
        deeds = [("set_to", names[at % 60], VALUES[at % 13]) for at in range(100)]
        deeds += [deed for world in range(1, 20) for deed in (("copy", world - 1), ("enter", world))]
        deeds += [("set_to", names[at * 7 % 60], VALUES[at % 11]) for at in range(200)]
        deeds += [("back", token) for token in range(299, 200, -1)]
        deeds += [("copy", world) for world in range(20)]
        for deed, *things in deeds:
            self.assertEqual(outcome(getattr(hall, deed), *things), due.outcome(deed, *things))
        self.assertEqual((len(hall.settings()), hall.worlds(), len(hall.entered())), (60, 40, 20))
        self.assertEqual((hall.roads().places(), len(due.tokens)), (400, 300))
        asked = names[::9] + ["nowhere"]
        self.assertEqual(told_of_hall(hall, 300, asked), due.told(asked))
        refusal(self, NoToken, 300, hall.back, 300)
        refusal(self, NoWorld, 40, hall.enter, 40)
        refusal(self, Known, names[59], hall.declare, names[59], None)
        for world in range(19, 0, -1):
            self.assertEqual(hall.now(), world)
            hall.leave()
        refusal(self, AtHome, 0, hall.leave)


class TheAskersOwn(unittest.TestCase):
    def busy_hall(self):
        hall = hall_with()
        hall.back(hall.set_to("a", 1))
        hall.set_to("b", "two")
        hall.set_to("b", 3)
        hall.enter(hall.copy(0))
        hall.set_to("a", 4)
        return hall

    def test_lists_that_were_told_may_be_changed(self):
        hall = self.busy_hall()
        asks = [hall.settings, hall.entered, hall.seen, lambda: hall.open_tokens(0), lambda: hall.open_tokens(1)]
        change_lists(self, asks)
        calm = self.busy_hall()
        self.assertEqual(told_of_hall(hall, 4, NAMES), told_of_hall(calm, 4, NAMES))
        hall.leave()
        self.assertEqual(hall.entered(), [0])

    def test_lists_that_were_told_don_t_change_by_later_deeds(self):
        hall = self.busy_hall()
        told = [hall.settings(), hall.entered(), hall.seen(), hall.open_tokens(0), hall.open_tokens(1), hall.token(3)]
        before = plain(told)
        hall.back(3)
        hall.leave()
        hall.declare("new", 1)
        hall.back(2)
        hall.set_to("c", 1)
        self.assertEqual(plain(told), before)

    def test_two_halls_by_turns(self):
        drawn = random.Random(17)
        both = [(hall_with(), HallDue()), (hall_with(), HallDue())]
        for hall, due in both:
            for row in zip(NAMES, DEFAULTS):
                due.do("declare", *row)
        for count in range(240):
            hall, due = both[drawn.randrange(2)]
            deed, *things = draw_deed(drawn, due, NAMES)
            self.assertEqual(outcome(getattr(hall, deed), *things), due.outcome(deed, *things))
            if count % 8 == 0:
                for hall, due in both:
                    self.assertEqual(told_of_hall(hall, len(due.tokens), NAMES), due.told(NAMES))
        self.assertIsNot(both[0][0].roads(), both[1][0].roads())


if __name__ == "__main__":
    unittest.main()
