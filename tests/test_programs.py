"""Programs: point [16], and what [2] and [3] say of them."""

import random
import unittest

from helper import SHAPES, VALUES, blocks_in, draw_program, is_program_due, nested, plain
from roadsettings.programs import is_program, names_in, steps_in, turned

NAMES = ["a", "b", "set", "look", "begin", "late", "in", "zzzzzzzz"]
SLOTS = ["a", "slot", "back", "copy", "pass"]
ONE_OF_EACH = (
    ("set", "a", 1, "s"), ("set", "b", "", "s"), ("look", "a"), ("back", "s"), ("begin", (("look", "c"),)),
    ("late", ()), ("copy", "w"), ("in", "w", (("set", "d", "it's", "t"), ("pass",))), ("pass",),
)
INSTEAD = [
    None, True, False, 0, -7, "", "a", "A", "a b", "abcdefghi", "\n", "\t", "set", "pass", (), [], ("pass",), ["pass"],
    (("pass",),), [("pass",)], ("look", "a"), (("look", "A"),), ((),), ([],), ("set",), ("",), (None,),
]


def drawn_programs(count, steps):
    drawn = random.Random(16)
    return [draw_program(drawn, drawn.randint(0, steps), NAMES, SLOTS) for at in range(count)]


def spoilt(thing):
    """Each of the things that differ from this one in one place."""
    yield from INSTEAD
    if isinstance(thing, tuple):
        yield list(thing)
        for at, part in enumerate(thing):
            yield thing[:at] + thing[at + 1:]
            yield thing[:at] + (part, part) + thing[at + 1:]
            for other in spoilt(part):
                yield thing[:at] + (other,) + thing[at + 1:]
        yield thing + (None,)
        yield thing + ("a",)
        yield thing + ((),)


def count_due(program):
    return sum(1 + (count_due(step[-1]) if "p" in SHAPES[step[0]] else 0) for step in program)


def names_due(program):
    """All names of set and look steps as they come, also those that come again."""
    names = []
    for step in program:
        names += [step[1]] if step[0] in ("set", "look") else []
        names += names_due(step[-1]) if "p" in SHAPES[step[0]] else []
    return names


def turned_due(program, word):
    steps = []
    for step in program:
        if step[0] in ("begin", "late"):
            step = (word, turned_due(step[1], word))
        elif step[0] == "in":
            step = ("in", step[1], turned_due(step[2], word))
        steps.append(step)
    return tuple(steps)


class IsProgram(unittest.TestCase):
    def test_programs_of_all_eight_words(self):
        self.assertIs(is_program(()), True)
        self.assertIs(is_program(ONE_OF_EACH), True)
        for step in ONE_OF_EACH:
            self.assertIs(is_program((step,)), True)
            self.assertIs(is_program((step, step)), True)

    def test_blocks_within_one_another(self):
        for words in (["begin"] * 6, ["late"] * 6, ["in"] * 6, ["begin", "in", "late"] * 2):
            self.assertIs(is_program(nested(words, ONE_OF_EACH)), True)
            self.assertIs(is_program(nested(words, ())), True)
            self.assertIs(is_program(nested(words, (("look", "A"),))), False)
            self.assertIs(is_program(nested(words, ["look", "a"])), False)
            self.assertIs(is_program(nested(words, [("look", "a")])), False)
            self.assertIs(is_program(nested(words, (["look", "a"],))), False)

    def test_values_of_both_kinds(self):
        for value in VALUES:
            self.assertIs(is_program((("set", "a", value, "s"),)), True)
        for wrong in (None, True, False, (), [], (1,), [1], "\n", "a\tb", "\x7f", "\u00e9", "\x00"):
            self.assertIs(is_program((("set", "a", wrong, "s"),)), False)

    def test_bounds_are_not_looked_at(self):
        self.assertIs(is_program((("set", "a", 10**40, "s"), ("set", "a", "x" * 90, "s"))), True)
        self.assertIs(is_program((("pass",),) * 500), True)

    def test_names_and_slots(self):
        for name in ("a", "zzzzzzzz", "set", "pass", "program"):
            for step in (("set", name, 1, name), ("look", name), ("back", name), ("copy", name), ("in", name, ())):
                self.assertIs(is_program((step,)), True)
        for wrong in ("", "A", "abcdefghi", "a1", "a b", " a", "a\n", "\u00e9", 1, 0, None, True, (), ("a",), ["a"]):
            steps = [("set", wrong, 1, "s"), ("set", "a", 1, wrong), ("look", wrong), ("back", wrong), ("copy", wrong)]
            for step in steps + [("in", wrong, ())]:
                self.assertIs(is_program((step,)), False, step)

    def test_anything_else(self):
        deep = ()
        for level in range(15):
            deep = (deep,)
        row = []
        for level in range(15):
            row = [row]
        others = [
            None, True, False, 0, 1, -1, "", "pass", [], [("pass",)], ("pass",), ((),), ([],), (None,), (0,), ("",),
        ]
        others += [deep, row, (("begin", deep[0]),), (("begin", row),), (("pass",), None), (("pass",), ())]
        others += [
            ((None,),), ((True,),), ((0,),), (((),),), (([],),), (("begin",),), (("Pass",),), (("pass", "pass"),),
        ]
        others += [
            ((("pass",),),), (("run", ()),), ((["pass"],),), (("begin", None),), (("in", "a"),), (("in", (), "a"),),
        ]
        others += [(("look", "a", "b"),), (("set", "a", 1),), (("set", "a", 1, "b", "c"),), (("begin", (), ()),)]
        for other in others:
            self.assertIs(is_program(other), False, other)

    def test_spoilt_in_one_place(self):
        told = {True: 0, False: 0}
        for program in [ONE_OF_EACH, nested(["begin", "in", "late", "in", "late", "begin"], ONE_OF_EACH[:5])]:
            for other in spoilt(program):
                due = is_program_due(other)
                self.assertIs(is_program(other), due, other)
                told[due] += 1
        for program in drawn_programs(12, 8):
            for other in spoilt(program):
                self.assertIs(is_program(other), is_program_due(other), other)
        self.assertGreater(told[False], 1000)
        self.assertGreater(told[True], 50)

    def test_drawn_programs_up_to_the_bounds(self):
        deepest = 0
        for program in drawn_programs(60, 150):
            self.assertIs(is_program(program), True)
            self.assertIs(is_program(list(program)), False)
            deepest = max(deepest, blocks_in(program))
        self.assertEqual(deepest, 6)


class Counted(unittest.TestCase):
    def test_by_hand(self):
        self.assertEqual(plain((steps_in(()), names_in(()))), plain((0, [])))
        self.assertEqual(plain(steps_in(ONE_OF_EACH)), plain(12))
        self.assertEqual(plain(names_in(ONE_OF_EACH)), plain(["a", "b", "c", "d"]))
        program = (("begin", (("look", "late"), ("in", "w", (("set", "b", 1, "x"),)))), ("look", "a"), ("look", "b"))
        self.assertEqual(steps_in(program), 6)
        self.assertEqual(names_in(program), ["late", "b", "a"])

    def test_names_that_are_the_words_of_steps(self):
        program = (
            ("look", "begin"), ("set", "in", "late", "set"), ("back", "begin"), ("copy", "in"),
            ("in", "late", (("look", "pass"), ("look", "begin"))),
        )
        self.assertEqual(steps_in(program), 7)
        self.assertEqual(names_in(program), ["begin", "in", "pass"])
        self.assertEqual(plain(turned(program, "late")), plain(program))
        self.assertEqual(plain(turned((("begin", program),), "late")), plain((("late", program),)))

    def test_slots_are_no_names(self):
        program = (("back", "x"), ("copy", "y"), ("in", "z", (("set", "a", "b", "c"),)))
        self.assertEqual(names_in(program), ["a"])

    def test_drawn_programs(self):
        for program in drawn_programs(80, 150):
            self.assertEqual(plain(steps_in(program)), plain(count_due(program)))
            self.assertEqual(plain(names_in(program)), plain(list(dict.fromkeys(names_due(program)))))

    def test_lists_that_were_told_may_be_changed(self):
        told = names_in(ONE_OF_EACH)
        told.append("more")
        told[0] = "other"
        self.assertEqual(names_in(ONE_OF_EACH), ["a", "b", "c", "d"])


class Turned(unittest.TestCase):
    def test_by_hand(self):
        program = (("begin", (("late", (("begin", ()),)),)), ("in", "w", (("late", ()), ("begin", (("pass",),)))))
        late = (("late", (("late", (("late", ()),)),)), ("in", "w", (("late", ()), ("late", (("pass",),)))))
        begin = (("begin", (("begin", (("begin", ()),)),)), ("in", "w", (("begin", ()), ("begin", (("pass",),)))))
        self.assertEqual(plain(turned(program, "late")), plain(late))
        self.assertEqual(plain(turned(program, "begin")), plain(begin))
        self.assertEqual(plain(turned((), "late")), plain(()))

    def test_drawn_programs_turned_once_and_twice(self):
        for program in drawn_programs(80, 150):
            late, begin = turned(program, "late"), turned(program, "begin")
            self.assertEqual(plain(late), plain(turned_due(program, "late")))
            self.assertEqual(plain(begin), plain(turned_due(program, "begin")))
            self.assertEqual(plain(turned(late, "late")), plain(late))
            self.assertEqual(plain(turned(late, "begin")), plain(begin))
            self.assertEqual(plain(turned(begin, "late")), plain(late))
            self.assertEqual(steps_in(late), steps_in(program))
            self.assertEqual(names_in(late), names_in(program))


if __name__ == "__main__":
    unittest.main()
