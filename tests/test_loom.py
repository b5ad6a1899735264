"""Looms: points [17] and [18], and what [2] and [3] say of them."""

import random
import unittest

from helper import (
    VALUES, LoomDue, blocks_in, change_lists, draw_program, nested, outcome, plain, refusal, told_of_loom, warmed,
    woven_due,
)
from roadsettings.errors import Known, NoSetting, NoTask
from roadsettings.loom import Loom, woven
from roadsettings.programs import steps_in

NAMES = ["a", "a", "b", "in", "wzzz"]
SETTINGS = [("wzzz", None), ("a", None), ("b", 0), ("c", "c's"), ("in", "")]
SLOTS = ["a", "s"]
WORDS = ("set",) * 4 + ("back",) * 5 + ("look",) * 3 + ("copy", "in") * 3 + ("begin", "late", "pass")


def drawn_programs(count, steps, seed=17, least=0):
    drawn = random.Random(seed)
    programs = [draw_program(drawn, drawn.randint(least, steps), NAMES, SLOTS, words=WORDS) for at in range(count)]
    return [warmed(drawn, program, SLOTS) for program in programs]


def done(program, settings=tuple(SETTINGS)):
    """A loom whose program is done to the end, and the list of its turns."""
    loom = Loom(settings, program)
    turns = [loom.turn(0)]
    while turns[-1] is not None:
        turns.append(loom.turn(0))
    return loom, turns[:-1]


class Steps(unittest.TestCase):
    def notes(self, *program):
        """The first task's notes."""
        loom, turns = done(program)
        return loom.notes(())

    def check_notes(self, due, *program):
        self.assertEqual(plain(self.notes(*program)), plain(due))

    def test_set_and_look(self):
        for value in VALUES:
            self.check_notes([("look", "a", value)], ("set", "a", value, "s"), ("look", "a"))
        self.check_notes([("missing", "a")], ("look", "a"))
        self.check_notes(
            [("look", "b", 0), ("look", "c", "c's"), ("look", "in", "")], *[("look", x) for x in ("b", "c", "in")],
        )
        self.check_notes([], ("set", "a", 1, "s"))

    def test_back(self):
        self.check_notes([("back", "s", "none")], ("back", "s"))
        program = [("set", "a", 1, "s"), ("set", "a", 2, "t"), ("back", "s"), ("back", "t"), ("look", "a")]
        program += [("back", "t"), ("back", "s"), ("look", "a"), ("back", "s")]
        due = [("back", "s", "turn"), ("back", "t", "done"), ("look", "a", 1), ("back", "t", "used")]
        due += [("back", "s", "done"), ("missing", "a"), ("back", "s", "used")]
        self.check_notes(due, *program)

    def test_back_elsewhere(self):
        inner = (("back", "s"), ("set", "a", 2, "t"), ("look", "a"))
        program = [("set", "a", 1, "s"), ("copy", "w"), ("in", "w", inner), ("back", "t"), ("back", "s"), ("look", "a")]
        due = [("back", "s", "elsewhere"), ("look", "a", 2), ("back", "t", "elsewhere"), ("back", "s", "done")]
        self.check_notes(due + [("missing", "a")], *program)

    def test_a_used_token_elsewhere_is_used(self):
        program = [("set", "a", 1, "s"), ("back", "s"), ("copy", "w"), ("in", "w", (("back", "s"),))]
        self.check_notes([("back", "s", "done"), ("back", "s", "used")], *program)

    def test_an_early_token_elsewhere_is_elsewhere(self):
        program = [("set", "a", 1, "s"), ("set", "a", 1, "t"), ("copy", "w"), ("in", "w", (("back", "s"),))]
        self.check_notes([("back", "s", "elsewhere")], *program)

    def test_slots_that_are_set_again(self):
        program = [("set", "a", 1, "s"), ("set", "a", 2, "s"), ("back", "s"), ("look", "a"), ("back", "s")]
        self.check_notes([("back", "s", "done"), ("look", "a", 1), ("back", "s", "used")], *program)
        program = [("set", "a", 1, "s"), ("set", "a", 2, "t"), ("set", "b", 3, "t"), ("back", "s"), ("back", "t")]
        self.check_notes([("back", "s", "turn"), ("back", "t", "done")], *program)

    def test_slots_and_names_of_one_spelling(self):
        program = [
            ("set", "a", 1, "a"), ("copy", "a"), ("set", "b", 2, "a"), ("in", "a", (("look", "a"), ("look", "b"))),
        ]
        program += [("back", "a"), ("look", "a"), ("look", "b")]
        due = [("look", "a", 1), ("look", "b", 0), ("back", "a", "done"), ("look", "a", 1), ("look", "b", 0)]
        self.check_notes(due, *program)
        self.check_notes(
            [("back", "w", "none"), ("in", "s", "none")], ("copy", "w"), ("back", "w"), ("set", "a", 1, "s"),
            ("in", "s", ()),
        )

    def test_copy_and_in(self):
        program = [
            ("set", "a", 1, "s"), ("copy", "w"), ("set", "a", 2, "s"),
            ("in", "w", (("look", "a"), ("set", "a", 3, "t"))),
        ]
        program += [("look", "a"), ("in", "w", (("look", "a"),)), ("look", "a")]
        self.check_notes([("look", "a", value) for value in (1, 2, 3, 2)], *program)

    def test_in_of_an_empty_slot(self):
        self.check_notes([("in", "w", "none"), ("look", "b", 0)], ("in", "w", (("look", "a"),)), ("look", "b"))

    def test_in_of_a_world_that_the_task_is_within(self):
        program = [("copy", "w"), ("in", "w", (("in", "w", (("look", "b"),)), ("look", "c")))]
        self.check_notes([("in", "w", "busy"), ("look", "c", "c's")], *program)
        self.check_notes([("in", "w", "busy")], ("copy", "w"), ("in", "w", (("in", "w", ()),)))

    def test_in_of_a_world_that_lies_further_out(self):
        inner = (
            ("copy", "v"), ("in", "v", (("in", "w", (("look", "b"),)), ("in", "v", ()), ("pass",))),
            ("in", "v", (("look", "c"),)),
        )
        due = [("in", "w", "busy"), ("in", "v", "busy"), ("look", "c", "c's")]
        self.check_notes(due, ("copy", "w"), ("in", "w", inner))

    def test_a_block_lasts_while_an_in_that_comes_last_goes_on(self):
        inner = (("copy", "v"), ("in", "v", (("in", "w", (("look", "b"),)), ("look", "c"))))
        program = [("copy", "w"), ("in", "w", inner), ("in", "w", (("look", "b"),))]
        self.check_notes([("in", "w", "busy"), ("look", "c", "c's"), ("look", "b", 0)], *program)

    def test_in_of_a_world_that_its_slot_has_lost(self):
        inner = (
            ("set", "a", 1, "s"), ("copy", "w"), ("set", "a", 2, "s"), ("look", "a"), ("in", "w", (("look", "a"),)),
            ("look", "a"),
        )
        program = [("copy", "w"), ("in", "w", inner), ("look", "a"), ("in", "w", (("look", "a"),))]
        due = [("look", "a", 2), ("look", "a", 1), ("look", "a", 2), ("missing", "a"), ("look", "a", 1)]
        self.check_notes(due, *program)

    def test_two_worlds_in_one_another(self):
        program = [
            ("copy", "w"), ("copy", "v"),
            ("in", "w", (("set", "a", 1, "s"), ("in", "v", (("look", "a"), ("set", "a", 2, "t"))), ("look", "a"))),
        ]
        program += [
            ("in", "v", (("back", "t"), ("look", "a"), ("in", "w", (("look", "a"), ("back", "s"), ("look", "a"))))),
        ]
        due = [
            ("missing", "a"), ("look", "a", 1), ("back", "t", "done"), ("missing", "a"), ("look", "a", 1),
            ("back", "s", "done"),
        ]
        self.check_notes(due + [("missing", "a")], *program)

    def test_begin_and_late_within_an_in(self):
        inner = (
            ("set", "a", 1, "s"), ("begin", (("look", "a"), ("back", "s"), ("in", "w", ()))), ("set", "a", 2, "s"),
            ("late", (("look", "a"),)),
        )
        loom, turns = done((("copy", "w"), ("in", "w", inner), ("begin", (("look", "a"),))))
        self.assertEqual(plain(loom.notes((0,))), plain([("look", "a", 1), ("back", "s", "none"), ("in", "w", "none")]))
        self.assertEqual(plain(loom.notes((1,))), plain([("look", "a", 2)]))
        self.assertEqual(plain(loom.notes((2,))), plain([("missing", "a")]))

    def test_pass_and_no_steps(self):
        self.check_notes([], ("pass",))
        self.check_notes([])


class Turns(unittest.TestCase):
    def test_a_loom_without_steps(self):
        loom = Loom([], ())
        self.assertEqual(plain([loom.ready(), loom.waiting(), loom.paths()]), plain([[], [], [()]]))
        for pick in (0, 1, 9999):
            self.assertIsNone(loom.turn(pick))
        self.assertEqual(plain([loom.notes(()), loom.sees(())]), plain([[], []]))

    def test_each_turn_of_a_small_program(self):
        program = (
            ("set", "a", 1, "s"), ("begin", (("look", "a"), ("begin", (("look", "a"),)))),
            ("late", (("look", "a"), ("pass",))),
            ("late", ()), ("set", "a", 2, "t"), ("begin", ()), ("late", (("look", "a"),)),
        )
        loom = Loom(SETTINGS, program)
        self.assertEqual((loom.ready(), loom.waiting(), loom.paths()), ([()], [], [()]))
        self.assertEqual(plain([loom.turn(5), loom.turn(0)]), plain([(), ()]))
        self.assertEqual(plain([loom.ready(), loom.paths()]), plain([[(), (0,)], [(), (0,)]]))
        self.assertEqual(loom.turn(3), (0,))
        self.assertEqual([loom.turn(2) for count in range(3)], [()] * 3)
        self.assertEqual(plain(loom.waiting()), plain([(1,), (2,)]))
        self.assertEqual((loom.sees((1,)), loom.sees(())), ([("a", 1)], [("a", 2)]))
        self.assertEqual([loom.turn(0), loom.turn(0)], [(), ()])
        self.assertEqual((loom.ready(), loom.waiting()), ([(0,)], [(1,), (2,), (4,)]))
        self.assertEqual(plain(loom.paths()), plain([(), (0,), (1,), (2,), (3,), (4,)]))
        self.assertEqual(loom.turn(7), (0,))
        self.assertEqual(plain([loom.ready(), loom.paths()[:3]]), plain([[(0, 0)], [(), (0,), (0, 0)]]))
        self.assertEqual(loom.turn(9999), (0, 0))
        self.assertEqual((loom.ready(), loom.waiting()), ([], [(1,), (2,), (4,)]))
        self.assertEqual(loom.turn(1), (1,))
        self.assertEqual((loom.ready(), loom.waiting()), ([(1,)], [(2,), (4,)]))
        self.assertEqual(loom.turn(1), (1,))
        self.assertEqual((loom.ready(), loom.waiting()), ([], [(2,), (4,)]))
        self.assertEqual(loom.turn(1), (4,))
        self.assertEqual((loom.ready(), loom.waiting()), ([], []))
        self.assertEqual([loom.turn(pick) for pick in (0, 1, 2)], [None] * 3)
        due = {(): [], (0,): 1, (0, 0): 1, (1,): 1, (2,): [], (3,): [], (4,): 2}
        for path, value in due.items():
            self.assertEqual(plain(loom.notes(path)), plain([("look", "a", value)] if value else []))

    def test_an_in_takes_a_turn_of_its_own(self):
        loom = Loom(
            SETTINGS, (("copy", "w"), ("in", "w", (("look", "b"), ("in", "w", ()))), ("in", "w", ()), ("in", "v", ())),
        )
        self.assertEqual([loom.turn(0), loom.turn(0), loom.notes(())], [(), (), []])
        self.assertEqual([loom.turn(0), loom.notes(())], [(), [("look", "b", 0)]])
        self.assertEqual([loom.turn(0), loom.notes(())[1:]], [(), [("in", "w", "busy")]])
        self.assertEqual([loom.turn(0), loom.ready()], [(), [()]])
        self.assertEqual([loom.turn(0), loom.ready()], [(), []])
        self.assertEqual(loom.notes(())[2:], [("in", "v", "none")])

    def test_an_in_that_comes_last_is_over_with_what_is_round_it(self):
        last = (("copy", "w"), ("in", "w", (("copy", "v"), ("in", "v", (("set", "a", 1, "s"), ("pass",))))))
        loom = Loom(SETTINGS, last)
        for count in range(5):
            loom.turn(0)
        self.assertEqual(plain((loom.ready(), loom.sees(()))), plain(([()], [("a", 1)])))
        self.assertEqual(loom.turn(0), ())
        self.assertEqual(plain((loom.ready(), loom.sees(()))), plain(([], [])))
        self.assertIsNone(loom.turn(0))
        self.assertEqual(len(done((("copy", "w"), ("in", "w", ())))[1]), 2)
        self.assertEqual(len(done((("copy", "w"), ("in", "w", (("in", "w", ()),))))[1]), 3)

    def test_sees_in_the_innermost_world(self):
        program = (
            ("set", "b", "x", "s"), ("copy", "w"),
            ("in", "w", (("set", "a", 1, "t"), ("set", "wzzz", 2, "t"), ("pass",))), ("pass",),
        )
        loom = Loom(SETTINGS, program)
        told = []
        while loom.turn(0) is not None:
            told.append(loom.sees(()))
        inner = [("a", 1), ("b", "x"), ("wzzz", 2)]
        due = [[("b", "x")]] * 3 + [inner[:2], inner, [("b", "x")], [("b", "x")]]
        self.assertEqual(plain(told), plain(due))

    def test_late_calls_in_a_row_without_steps(self):
        loom = Loom(SETTINGS, (("late", ()), ("late", ()), ("late", (("look", "b"),)), ("late", ())))
        self.assertEqual([loom.turn(0) for count in range(4)], [()] * 4)
        self.assertEqual(plain((loom.ready(), loom.waiting())), plain(([], [(0,), (1,), (2,), (3,)])))
        self.assertEqual(plain(loom.turn(0)), plain((2,)))
        self.assertEqual((loom.ready(), loom.waiting()), ([], [(3,)]))
        self.assertIsNone(loom.turn(0))
        self.assertEqual((loom.ready(), loom.waiting(), loom.notes((3,))), ([], [], []))

    def test_calls_left_by_calls_wait_behind_the_others(self):
        program = (("late", (("late", (("look", "a"),)), ("begin", (("look", "b"),)))), ("late", (("look", "c"),)))
        loom, turns = done(program)
        self.assertEqual(plain(turns), plain([(), (), (0,), (0,), (0, 1), (1,), (0, 0)]))
        self.assertEqual(loom.paths(), [(), (0,), (0, 0), (0, 1), (1,)])

    def test_a_late_call_keeps_the_world_of_its_leaving(self):
        call = (("look", "a"), ("set", "a", 3, "s"))
        loom, turns = done((("set", "a", 1, "s"), ("late", call), ("set", "a", 2, "s"), ("look", "a")))
        self.assertEqual((loom.notes((0,)), loom.notes(())), ([("look", "a", 1)], [("look", "a", 2)]))
        self.assertEqual((loom.sees((0,)), loom.sees(())), ([("a", 3)], [("a", 2)]))

    def test_more_than_ten_children_rise_as_numbers(self):
        loom, turns = done((("begin", ()),) * 12 + (("late", (("begin", ()),)),))
        self.assertEqual(plain(loom.paths()), plain([()] + [(at,) for at in range(13)] + [(12, 0)]))


class Refused(unittest.TestCase):
    def test_known_ahead_of_no_setting_each_of_the_first(self):
        program = (("look", "x"), ("set", "y", 1, "s"))
        double = [("a", 1), ("b", 2), ("b", None), ("a", 1)]
        for make in (Loom, lambda settings, steps: woven(settings, steps, [0])):
            refusal(self, Known, "b", make, double, program)
            refusal(self, Known, "b", make, tuple(double), ())
            refusal(self, NoSetting, "x", make, double[:2], program)
            refusal(self, NoSetting, "y", make, [("x", None)], program)
            refusal(self, NoSetting, "x", make, [], (("begin", (("in", "w", (("look", "x"),)),)), ("look", "y")))
            refusal(self, NoSetting, "x", make, [("y", 1)], nested(["begin", "late", "in"] * 2, program))

    def test_slots_need_no_settings(self):
        self.assertEqual(woven([], (("back", "s"), ("copy", "w"), ("in", "v", ())), [])[1], [()] * 3)

    def test_no_task(self):
        loom = Loom(SETTINGS, (("begin", ()), ("late", (("begin", ()),))))
        wrongs = [(0,), (1,), (1, 0), (2,), (0, 0), (-1,), (0, 1, 2), (10**29,)]
        for turn in range(3):
            for path in wrongs:
                due = ("refused", "NoTask", plain(path))
                if path not in loom.paths():
                    self.assertEqual((outcome(loom.notes, path), outcome(loom.sees, path)), (due, due))
            loom.turn(0)
        self.assertEqual(loom.paths(), [(), (0,), (1,), (1, 0)])
        refusal(self, NoTask, (2,), loom.notes, (2,))
        refusal(self, NoTask, (1, 1), loom.sees, (1, 1))


class Drawn(unittest.TestCase):
    def check_turns(self, settings, program, picks):
        """Each turn by these picks, beside what is due; tells the words of all notes."""
        loom, due = Loom(settings, program), LoomDue(settings, program)
        self.assertEqual(told_of_loom(loom), told_of_loom(due))
        for pick in picks:
            self.assertEqual(plain(loom.turn(pick)), plain(due.turn(pick)))
            self.assertEqual(told_of_loom(loom), told_of_loom(due))
        while due.ready() or due.waiting():
            self.assertEqual(plain(loom.turn(0)), plain(due.turn(0)))
        self.assertEqual(told_of_loom(loom), told_of_loom(due))
        self.assertIsNone(loom.turn(0))
        notes = [note for path in due.paths() for note in due.notes(path)]
        return [note[0] + (" " + note[2] if note[0] in ("back", "in") else "") for note in notes]

    def test_small_programs_turn_by_turn(self):
        drawn = random.Random(1)
        met = set()
        for program in drawn_programs(150, 25):
            met.update(self.check_turns(SETTINGS, program, [drawn.randrange(10000) for count in range(30)]))
        words = [
            "back none", "back done", "back used", "back elsewhere", "back turn", "in none", "in busy", "look",
            "missing",
        ]
        self.assertEqual(met, set(words))

    def test_large_programs_turn_by_turn(self):
        drawn = random.Random(2)
        deepest = 0
        for program in drawn_programs(16, 130, seed=5, least=110):
            deepest = max(deepest, blocks_in(program))
            self.assertLessEqual(steps_in(program), 150)
            self.check_turns(SETTINGS, program, [drawn.randrange(10000) for count in range(160)])
        self.assertEqual(deepest, 6)

    def test_woven_as_a_loom_is_turned(self):
        drawn = random.Random(3)
        for program in drawn_programs(60, 60, seed=6):
            picks = [drawn.randrange(10000) for count in range(drawn.randrange(80))]
            due = woven_due(SETTINGS, program, picks)
            told = woven(SETTINGS, program, picks)
            self.assertEqual(plain(told), plain(due))
            self.assertEqual(plain(woven(tuple(SETTINGS), program, tuple(picks))), plain(due))

    def test_notes_are_the_same_for_all_picks(self):
        drawn = random.Random(4)
        for program in drawn_programs(40, 80, seed=7):
            notes, turns = woven(SETTINGS, program, [])
            self.assertEqual(plain(woven(SETTINGS, program, [0] * 300)), plain((notes, turns)))
            self.assertLessEqual(len(turns), steps_in(program))
            for count in range(4):
                other, other_turns = woven(SETTINGS, program, [drawn.randrange(10000) for at in range(120)])
                self.assertEqual(plain(other), plain(notes))
                self.assertEqual(sorted(other_turns), sorted(turns))


class AtTheBounds(unittest.TestCase):
    def check_woven(self, settings, program, picks):
        self.assertEqual(plain(woven(settings, program, picks)), plain(woven_due(settings, program, picks)))

    def test_a_hundred_and_fifty_tasks_and_calls(self):
        drawn = random.Random(8)
        picks = [drawn.randrange(10000) for count in range(300)]
        for word in ("begin", "late"):
            self.check_woven(SETTINGS, ((word, ()),) * 150, picks)
            self.check_woven(SETTINGS, ((word, (("look", "b"),)),) * 75, picks)

    def test_a_hundred_and_fifty_sets_and_worlds(self):
        self.check_woven(SETTINGS, tuple(("set", "a", at, "s") for at in range(149)) + (("look", "a"),), [])
        self.check_woven(SETTINGS, (("copy", "w"), ("in", "w", (("copy", "v"),))) * 50, [9999] * 300)

    def test_sixty_settings_and_six_blocks(self):
        settings = [(first + second, None) for first in "abcdefghij" for second in "uvwxyz"]
        looks = tuple(("look", name) for name, default in settings)
        sets = tuple(("set", name, name, "s") for name, default in settings)
        for words in (["begin"] * 6, ["late"] * 6, ["begin", "late"] * 3):
            self.check_woven(settings, nested(words, sets + looks), [])
            self.check_woven(settings, sets + nested(words, looks), [3] * 300)
        inner = looks
        for slot in "fedcba":
            inner = (("copy", slot), ("in", slot, inner))
        self.check_woven(settings, sets + inner, [])


class TheAskersOwn(unittest.TestCase):
    PROGRAM = (
        ("set", "a", 1, "s"), ("look", "a"), ("begin", (("look", "a"), ("pass",))), ("late", (("look", "b"),)),
        ("pass",),
    )

    def test_lists_that_were_told_may_be_changed(self):
        loom = Loom(SETTINGS, self.PROGRAM)
        for pick in (0, 0, 0, 1, 0):
            loom.turn(pick)
        asks = [
            loom.ready, loom.waiting, loom.paths, lambda: loom.notes(()), lambda: loom.sees((0,)),
            lambda: loom.notes((0,)),
        ]
        change_lists(self, asks)
        told = [ask() for ask in asks]
        before = plain(told)
        while loom.turn(0) is not None:
            pass
        self.assertEqual(plain(told), before)

    def test_lists_that_were_handed_in_may_be_changed(self):
        settings = [("a", 5), ("b", None)]
        loom = Loom(settings, self.PROGRAM)
        settings[0] = ("a", 6)
        settings.clear()
        while loom.turn(0) is not None:
            pass
        self.assertEqual(loom.notes((1,)), [("missing", "b")])
        settings, picks = [("a", 5), ("b", None)], [1, 2, 3]
        first = woven(settings, self.PROGRAM, picks)
        self.assertEqual((settings, picks), ([("a", 5), ("b", None)], [1, 2, 3]))
        due = plain(first)
        first[0][0][1].append("more")
        first[0].clear()
        first[1].clear()
        self.assertEqual(plain(woven(settings, self.PROGRAM, picks)), due)

    def test_two_looms_by_turns(self):
        drawn = random.Random(11)
        first, second = drawn_programs(2, 60, seed=12)
        looms = [(Loom(SETTINGS, first), LoomDue(SETTINGS, first)), (Loom(SETTINGS, second), LoomDue(SETTINGS, second))]
        for count in range(140):
            loom, due = drawn.choice(looms)
            pick = drawn.randrange(9)
            self.assertEqual(loom.turn(pick), due.turn(pick))
            for loom, due in looms:
                self.assertEqual(told_of_loom(loom), told_of_loom(due))


if __name__ == "__main__":
    unittest.main()
