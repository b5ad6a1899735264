"""Sheets: point [20], and what [2] and [3] say of them."""

import random
import re
import unittest

from helper import (
    NAME_DUE, VALUE_DUE, VALUES, bad_row, draw_program, outcome, plain, program_read, refusal, row_read, rows_written,
    spoilt_rows, value_read, value_written, warmed, woven_due,
)
from roadsettings.errors import BadRow
from roadsettings.loom import woven
from roadsettings.programs import names_in, steps_in
from roadsettings.sheet import answers, sheet_from, turns_text
from roadsettings.texts import notes_text

NAMES = ["a", "b", "set", "weave", "wzzz"]
SLOTS = ["a", "s"]
SETTING_DUE = f"setting ({NAME_DUE})(?: ({VALUE_DUE}))?"
WEAVE_DUE = "weave(?: (?:0|[1-9][0-9]{0,3}))*"
SMALL = """setting a
setting b 5
setting c 'it\\'s'
weave 1 0 13
set a 1 s
begin
  look a
  look b
look c
late
  begin
    look a
back s
look a"""
SMALL_PROGRAM = (
    ("set", "a", 1, "s"), ("begin", (("look", "a"), ("look", "b"))), ("look", "c"),
    ("late", (("begin", (("look", "a"),)),)), ("back", "s"), ("look", "a"),
)


def sheet_written(settings, picks, program):
    """The rows of a sheet, by the words of [20]."""
    rows = [f"setting {name}" + ("" if default is None else " " + value_written(default)) for name, default in settings]
    return rows + [" ".join(["weave"] + [str(pick) for pick in picks])] + rows_written(program)


def setting_read(row):
    name, word = re.fullmatch(SETTING_DUE, row).groups()
    return (name, None if word is None else value_read(word))


def sheet_due(rows):
    """What sheet_from is to tell of the rows, in the form of outcome."""
    many = [re.fullmatch(SETTING_DUE, row) is None for row in rows + [""]].index(True)
    if many == len(rows) or re.fullmatch(WEAVE_DUE, rows[many]) is None:
        return ("refused", "BadRow", plain(many))
    number = bad_row(rows[many + 1:])
    if number is not None:
        return ("refused", "BadRow", plain(many + 1 + number))
    settings = [setting_read(row) for row in rows[:many]]
    names = [name for name, default in settings]
    again = [at for at, name in enumerate(names) if name in names[:at]]
    steps = [(many + 1 + at, row_read(row)[1]) for at, row in enumerate(rows[many + 1:])]
    again += [at for at, step in steps if step[0] in ("set", "look") and step[1] not in names]
    if again:
        return ("refused", "BadRow", plain(again[0]))
    picks = [int(word) for word in rows[many].split(" ")[1:]]
    return ("told", plain((settings, picks, program_read(rows[many + 1:]))))


def answers_due(notes):
    rows = []
    for path, noted in notes:
        rows.append("".join(["task"] + [f" {number}" for number in path]))
        rows += ["  " + row for row in notes_text(noted).split("\n")] if noted else []
    return "\n".join(rows)


def turns_due(turns):
    return " ".join(".".join(str(number) for number in path) or "-" for path in turns)


def drawn_sheets(count, steps, seed=20):
    """Tuples of drawn settings, picks and a program."""
    drawn = random.Random(seed)
    told = []
    for at in range(count):
        settings = [(name, drawn.choice(VALUES + [None] * 8)) for name in drawn.sample(NAMES, drawn.randint(1, 5))]
        names = [name for name, default in settings]
        picks = [drawn.choice([0, 9, 10, 99, 100, 9999, drawn.randrange(10000)]) for pick in range(drawn.randrange(12))]
        program = draw_program(drawn, drawn.randint(0, steps), names, SLOTS)
        told.append((settings, picks, warmed(drawn, program, SLOTS)))
    return told


class Read(unittest.TestCase):
    def test_a_small_sheet(self):
        settings = [("a", None), ("b", 5), ("c", "it's")]
        self.assertEqual(plain(sheet_from(SMALL)), plain((settings, [1, 0, 13], SMALL_PROGRAM)))

    def test_no_settings_no_picks_no_program_s_rows(self):
        self.assertEqual(plain(sheet_from("weave")), plain(([], [], ())))
        self.assertEqual(plain(sheet_from("weave 0")), plain(([], [0], ())))
        self.assertEqual(plain(sheet_from("setting a\nweave")), plain(([("a", None)], [], ())))
        self.assertEqual(plain(sheet_from("weave\npass")), plain(([], [], (("pass",),))))
        self.assertEqual(plain(sheet_from("weave 7\nback s")), plain(([], [7], (("back", "s"),))))

    def test_defaults(self):
        rows = [f"setting {'abcdefghijklmnopqrstuvwxyz'[at]} {value_written(value)}" for at, value in enumerate(VALUES)]
        settings, picks, program = sheet_from("\n".join(rows + ["weave"]))
        self.assertEqual(plain([default for name, default in settings]), plain(VALUES))

    def test_picks_of_one_to_four_figures(self):
        picks = [0, 1, 9, 10, 99, 100, 999, 1000, 9999, 0, 0]
        self.assertEqual(plain(sheet_from("weave " + " ".join(map(str, picks)))[1]), plain(picks))

    def test_names_that_are_the_words_of_rows(self):
        text = "setting setting 'weave'\nsetting weave\nweave 1\nlook setting\nset weave 'look' look"
        due = ([("setting", "weave"), ("weave", None)], [1], (("look", "setting"), ("set", "weave", "look", "look")))
        self.assertEqual(plain(sheet_from(text)), plain(due))

    def test_drawn_sheets(self):
        for sheet in drawn_sheets(60, 60):
            rows = sheet_written(*sheet)
            self.assertEqual(plain(sheet_from("\n".join(rows))), plain(sheet))
            self.assertEqual(sheet_due(rows), ("told", plain(sheet)))


class Refused(unittest.TestCase):
    def check_bad(self, number, *rows):
        for ask in (sheet_from, answers, turns_text):
            refusal(self, BadRow, number, ask, "\n".join(rows))

    def test_the_empty_text(self):
        self.check_bad(0, "")
        self.check_bad(0, "", "")
        self.check_bad(0, "", "weave")

    def test_the_row_weave_is_wanting(self):
        self.check_bad(1, "setting a")
        self.check_bad(2, "setting a", "setting b 1")
        self.check_bad(2, "setting a", "setting a")
        self.check_bad(0, "look a")
        self.check_bad(1, "setting a", "look a")
        self.check_bad(1, "setting a", "look a", "weave")
        self.check_bad(0, "pass", "weave")
        self.check_bad(1, "setting a", "")
        self.check_bad(2, "setting a", "setting b", "", "weave")

    def test_the_row_weave_twice_or_elsewhere(self):
        self.check_bad(1, "weave", "weave")
        self.check_bad(2, "weave", "pass", "weave 1")
        self.check_bad(1, "weave", "setting a", "look a")
        self.check_bad(2, "setting a", "weave 1", "setting b")
        self.check_bad(3, "setting a", "weave", "begin", "  weave")
        self.check_bad(0, "  weave")
        self.check_bad(1, "weave", "")
        self.check_bad(2, "weave", "pass", "")

    def test_spoilt_weaves(self):
        wrongs = [
            "weave ", "weave  1", "weave 1 ", "weave 1  2", " weave", "weave 01", "weave 00", "weave -1", "weave -0",
            "weave +1",
        ]
        wrongs += [
            "weave 10000", "weave 00001", "weave a", "weave '1'", "weave 1,2", "weave 1.0", "weave\t1", "weave 1\t2",
            "weave1",
        ]
        wrongs += ["Weave", "weav", "weavee", "weave 1 x", "weave \u0661", "weave 1\r", "weave 1 -2 3", "weave ''"]
        for row in wrongs:
            self.check_bad(0, row)
            self.check_bad(1, "setting a", row)
            self.check_bad(1, "setting a", row, "look b", "wrong")

    def test_spoilt_settings(self):
        wrongs = [
            "setting", "setting ", "setting  a", "setting a ", "setting A", "setting abcdefghi", "setting a1",
            "setting 5",
        ]
        wrongs += [
            "setting a 05", "setting a -0", "setting a 1 2", "setting a  1", "setting a 1 ", "setting a 'x",
            "setting a x'",
        ]
        wrongs += [
            "setting a 'x' ", "setting a 'x' 'y'", "setting a x", "setting a None", "setting a '\\x'", "setting a '\t'",
        ]
        wrongs += [
            "setting a " + "9" * 31, "setting a '" + "x" * 41 + "'", " setting a", "  setting a", "Setting a",
            "settings a",
        ]
        wrongs += [
            "setting\ta", "setting a\t1", "setting a\r", "set a", "set a 1 s", "setting a b 1", "setting 'a'",
            "setting a ''x''",
        ]
        for row in wrongs:
            self.check_bad(0, row, "weave")
            self.check_bad(2, "setting b", "setting c 'x y'", row, "weave x", "look d")

    def test_spoilt_rows_of_programs(self):
        for row in (
            "look", "look  a", " look a", "    look a", "look a ", "set a 01 s", "", "setting a", "task", "begin a",
        ):
            self.check_bad(2, "setting a", "weave", row)
            self.check_bad(3, "setting a", "weave 1", "begin", "    " + row)
            self.check_bad(4, "setting a", "weave 1", "begin", "  look a", row, "wrong")

    def test_a_setting_told_again(self):
        self.check_bad(1, "setting a", "setting a", "weave")
        self.check_bad(2, "setting a 1", "setting b", "setting a 'x'", "setting b", "weave", "look a")
        self.check_bad(1, "setting a", "setting a 1", "weave", "look b")

    def test_names_that_are_no_settings(self):
        self.check_bad(1, "weave", "look a")
        self.check_bad(3, "setting a", "weave", "look a", "look b", "look c")
        self.check_bad(3, "setting a", "weave", "begin", "  set b 1 a")
        self.check_bad(4, "setting a", "weave", "begin", "  in b", "    look b", "look c")
        self.assertEqual(sheet_from("setting a\nweave\nset a 1 b\nback b\ncopy c\nin d")[2][1], ("back", "b"))

    def test_the_order_of_the_three_refusals(self):
        self.check_bad(5, "setting a", "setting a", "weave", "look b", "pass", "pass ")
        self.check_bad(4, "setting a", "setting a", "weave", "look b", "    pass")
        self.check_bad(1, "setting a", "setting a", "weave", "look b")
        self.check_bad(2, "setting a", "weave", "look b", "look c")
        self.check_bad(2, "setting a", "setting a", "weave 01", "look b")
        self.check_bad(2, "setting a", "setting a", "look b")
        self.check_bad(3, "setting a", "weave", "look b", "weave")

    def test_each_row_spoilt_in_one_place(self):
        drawn = random.Random(25)
        told = {"told": 0, "refused": 0}
        for sheet in drawn_sheets(40, 8, seed=26):
            for rows in spoilt_rows(drawn, sheet_written(*sheet), 120):
                rows = rows or [""]
                due = sheet_due(rows)
                text = "\n".join(rows)
                self.assertEqual(outcome(sheet_from, text), due, rows)
                told[due[0]] += 1
                if due[0] == "refused":
                    self.assertEqual((outcome(answers, text), outcome(turns_text, text)), (due, due))
        self.assertGreater(told["refused"], 2000)
        self.assertGreater(told["told"], 400)


class Answers(unittest.TestCase):
    def test_a_small_sheet(self):
        rows = ["task", "  look c 'it\\'s'", "  back s done", "  missing a", "task 0", "  look a 1", "  look b 5"]
        rows += ["task 1", "task 1 0", "  look a 1"]
        self.assertEqual(plain(answers(SMALL)), plain("\n".join(rows)))
        self.assertEqual(plain(turns_text(SMALL)), plain("- - 0 - - - - 0 1 1.0"))

    def test_no_program_s_rows(self):
        self.assertEqual(plain((answers("weave"), turns_text("weave"))), plain(("task", "")))
        self.assertEqual(
            plain((answers("setting a\nweave 5 5"), turns_text("setting a\nweave 5 5"))), plain(("task", "")),
        )
        self.assertEqual((answers("weave\npass"), turns_text("weave\npass")), ("task", "-"))

    def test_all_kinds_of_notes(self):
        sheet = ["setting a", "weave", "look a", "back s", "in w", "copy w", "set a ' ' s", "look a", "in w", "  in w"]
        sheet += ["  back s", "set a 2 t", "back s", "back t", "back t"]
        rows = ["task", "missing a", "back s none", "in w none", "look a ' '", "in w busy", "back s elsewhere"]
        rows += ["back s turn", "back t done", "back t used"]
        self.assertEqual(answers("\n".join(sheet)), "\n  ".join(rows))

    def test_paths_of_many_numbers(self):
        text = "weave\n" + "\n".join(["begin"] * 11 + ["  begin", "    late", "      pass"])
        self.assertEqual(answers(text).split("\n")[-3:], ["task 10", "task 10 0", "task 10 0 0"])
        self.assertEqual(turns_text(text), " ".join(["-"] * 11 + ["10", "10.0", "10.0.0"]))

    def test_drawn_sheets_against_woven(self):
        for settings, picks, program in drawn_sheets(80, 100, seed=27):
            self.assertLessEqual(steps_in(program), 150)
            text = "\n".join(sheet_written(settings, picks, program))
            notes, turns = woven(settings, program, picks)
            self.assertEqual(plain((notes, turns)), plain(woven_due(settings, program, picks)))
            self.assertEqual(plain(answers(text)), plain(answers_due(notes)))
            self.assertEqual(plain(turns_text(text)), plain(turns_due(turns)))

    def test_asked_again(self):
        first = sheet_from(SMALL)
        due = plain(first)
        first[0].clear()
        first[1].append(5)
        self.assertEqual(plain(sheet_from(SMALL)), due)
        self.assertEqual((answers(SMALL), turns_text(SMALL)), (answers(SMALL), turns_text(SMALL)))


class AtTheBounds(unittest.TestCase):
    def test_a_sheet_of_three_hundred_rows(self):
        drawn = random.Random(28)
        names = [first + second for first in "abcdefghij" for second in "uvwxyz"]
        settings = [(name, VALUES[at % 15] if at % 4 else None) for at, name in enumerate(names)]
        picks = [drawn.randint(1000, 9999) for count in range(300)]
        program = draw_program(drawn, 150, names, SLOTS)
        rows = sheet_written(settings, picks, program)
        self.assertEqual((len(rows), len(rows[60])), (211, 1505))
        text = "\n".join(rows)
        notes, turns = woven_due(settings, program, picks)
        self.assertEqual(plain(sheet_from(text)), plain((settings, picks, program)))
        self.assertEqual((answers(text), turns_text(text)), (answers_due(notes), turns_due(turns)))
        self.assertGreater(len(names_in(program)), 10)
        refusal(self, BadRow, 300, sheet_from, "\n".join(rows + ["pass"] * 89 + ["pas"]))
        self.assertEqual(len(sheet_from("\n".join(rows + ["pass"] * 89))[2]), len(program) + 89)

    def test_long_rows(self):
        for row in (
            "weave " + "1" * 1594, "weave" + " 1" * 790 + " x", "setting a " + "9" * 1590, "s" * 1600, " " * 1600,
        ):
            refusal(self, BadRow, 1, sheet_from, "setting b\n" + row)


if __name__ == "__main__":
    unittest.main()
