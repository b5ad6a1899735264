"""Texts of programs and notes: point [19], and what [2] and [3] say of them."""

import random
import unittest

from helper import (
    VALUES, bad_row, draw_program, nested, outcome, plain, program_read, refusal, rows_written, spoilt_rows,
    value_written,
)
from roadsettings.errors import BadRow
from roadsettings.texts import notes_text, program_from, program_text

NAMES = ["a", "b", "set", "look", "begin", "late", "in", "zzzzzzzz"]
SLOTS = ["a", "slot", "back", "copy", "pass"]
BLOCK_WORDS = ("begin", "late", "in s")
WRITTEN = [
    (0, "0"), (7, "7"), (-7, "-7"), (10, "10"), (10**30 - 1, "9" * 30), (1 - 10**30, "-" + "9" * 30), ("", "''"),
    (" ", "' '"),
    ("0", "'0'"), ("-5", "'-5'"), ("a b", "'a b'"), ("  a  ", "'  a  '"), ("'", "'\\''"), ("\\", "'\\\\'"),
    ("it's", "'it\\'s'"), ("\\'", "'\\\\\\''"), ("'\\", "'\\'\\\\'"), ("\\n", "'\\\\n'"),
    ("'" * 40, "'" + "\\'" * 40 + "'"),
    ("\\" * 40, "'" + "\\\\" * 40 + "'"), ("x" * 40, "'" + "x" * 40 + "'"), ("~ !\"#&()", "'~ !\"#&()'"),
    ("' s", "'\\' s'"),
    ("' 'a' s", "'\\' \\'a\\' s'"), (" " * 40, "'" + " " * 40 + "'"),
]
# Each is no value as it would be written.
NOT_WRITTEN = [
    "-0", "00", "01", "-01", "007", "+1", "--1", "- 1", "-", "1-", "1.0", "1e3", "1_0", "0x1", "9" * 31, "-" + "9" * 31,
    "0" * 31,
    "\u0661", "\u00b2", "'", "'a", "a'", "a", "abc", "None", "\"a\"", "''a'", "'a''", "'a'b'", "'\\'", "'\\a'", "'\\n'",
    "'\\ '",
    "'\\\\\\'", "'a\\", "'\t'", "'\u00e9'", "'\x7f'", "'\x00'", "'\r'", "'" + "x" * 41 + "'", "'" + "\\'" * 41 + "'",
    "'a' ", " 'a'", "1 ", " 1", "'a'1", "1'a'", "", " ", "'''", "'a' 'b'", "1 2",
]


def drawn_programs(count, steps, seed=19):
    drawn = random.Random(seed)
    return [draw_program(drawn, drawn.randint(0, steps), NAMES, SLOTS) for at in range(count)]


def set_row(word):
    return f"set a {word} s"


class Written(unittest.TestCase):
    def check(self, program, text):
        """Written so, and read from it."""
        self.assertEqual(plain(program_text(program)), plain(text))
        self.assertEqual(plain(program_from(text)), plain(program))

    def test_the_text_without_rows(self):
        self.check((), "")

    def test_each_step(self):
        self.check((("set", "a", 5, "s"),), "set a 5 s")
        self.check((("look", "a"),), "look a")
        self.check((("back", "s"),), "back s")
        self.check((("begin", ()),), "begin")
        self.check((("late", ()),), "late")
        self.check((("copy", "w"),), "copy w")
        self.check((("in", "w", ()),), "in w")
        self.check((("pass",),), "pass")

    def test_values(self):
        for value, word in WRITTEN:
            self.check((("set", "abcdefgh", value, "zzzzzzzz"),), f"set abcdefgh {word} zzzzzzzz")

    def test_programs_within(self):
        program = (
            ("begin", (("look", "a"), ("in", "w", (("set", "b", "x y", "s"),)), ("late", ()))),
            ("late", (("begin", (("pass",),)),)),
            ("in", "w", ()), ("begin", ()), ("pass",),
        )
        rows = [
            "begin", "  look a", "  in w", "    set b 'x y' s", "  late", "late", "  begin", "    pass", "in w",
            "begin", "pass",
        ]
        self.check(program, "\n".join(rows))

    def test_names_that_are_the_words_of_steps(self):
        program = (("set", "set", "set", "set"), ("look", "begin"), ("in", "in", (("back", "late"), ("copy", "pass"))))
        self.check(program, "set set 'set' set\nlook begin\nin in\n  back late\n  copy pass")

    def test_six_blocks_within_one_another(self):
        for words in (["begin"] * 6, ["late"] * 6, ["in"] * 6, ["begin", "in", "late"] * 2):
            program = nested(words, (("look", "a"), ("set", "b", "'", "s")))
            self.check(program, "\n".join(rows_written(program)))
            self.assertEqual(program_text(program).split("\n")[-1], "            set b '\\'' s")

    def test_drawn_programs_either_way_about(self):
        for program in drawn_programs(80, 150):
            self.check(program, "\n".join(rows_written(program)))

    def test_many_rows(self):
        for row in ("pass", "begin", "set a 'x' s"):
            program = program_from("\n".join([row] * 300))
            self.assertEqual((len(program), program_text(program)), (300, "\n".join([row] * 300)))


class Refused(unittest.TestCase):
    def check_bad(self, number, *rows):
        refusal(self, BadRow, number, program_from, "\n".join(rows))

    def test_values_that_are_not_so_written(self):
        for word in NOT_WRITTEN:
            self.check_bad(0, set_row(word))
            self.check_bad(2, "pass", "begin", "  " + set_row(word), set_row(word))

    def test_words_more_or_less(self):
        rows = [
            "set", "set a", "set a 1", "set a 1 s t", "set 1 s", "set a s", "set a 'x'", "set a 'x' s t",
            "set a 'x y' s t",
        ]
        rows += [
            "look", "look a b", "look a 1", "back", "back s t", "begin s", "late s", "copy", "copy a b", "in", "in a b",
            "in 1",
        ]
        rows += [
            "pass a", "pass pass", "look a look b", "begin begin", "run", "setting a", "weave", "task", "missing a",
            "-", "1",
        ]
        for row in rows:
            self.check_bad(0, row)
            self.check_bad(1, "begin", "  " + row)
            self.check_bad(1, "pass", row, "also wrong")

    def test_wrong_names_and_slots(self):
        for name in (
            "A", "aA", "a1", "1", "abcdefghi", "a-b", "a_b", "'a'", "\u00e9", "a\t", "\ta", "a\r", "a\x0b", "a\u2028b",
            "\u00a0a",
        ):
            for row in (
                f"look {name}", f"set {name} 1 s", f"set a 1 {name}", f"back {name}", f"copy {name}", f"in {name}",
            ):
                self.check_bad(0, row)
                self.check_bad(1, "look a", row)

    def test_words_of_other_spelling(self):
        for row in (
            "Look a", "LOOK a", "loo a", "looka", "look\ta", "lookk a", "begins", "Begin", "pas", "passs", "passa",
        ):
            self.check_bad(0, row)

    def test_blanks_ahead_between_and_at_the_end(self):
        for row in ("look a", "set a 1 s", "set a 'x' s", "begin", "pass", "in w", "back s"):
            for wrong in (
                " " + row, "  " + row, "   " + row, row + " ", row + "  ", "\t" + row, row + "\t", row + "\r",
            ):
                self.check_bad(0, wrong)
                self.check_bad(1, "pass", wrong)
            self.check_bad(1, "begin", " " + row)
            self.check_bad(1, "begin", "   " + row)
            self.check_bad(1, "begin", "  " + row + " ")
            if " " in row:
                for at in [at for at, sign in enumerate(row) if sign == " "]:
                    self.check_bad(0, row[:at] + " " + row[at:])

    def test_empty_rows_and_line_feeds(self):
        refusal(self, BadRow, 0, program_from, "\n")
        refusal(self, BadRow, 0, program_from, "\n\n")
        refusal(self, BadRow, 0, program_from, "\nlook a")
        refusal(self, BadRow, 1, program_from, "look a\n")
        refusal(self, BadRow, 1, program_from, "look a\n\nlook a")
        refusal(self, BadRow, 2, program_from, "begin\n  pass\n")
        refusal(self, BadRow, 1, program_from, "begin\n  ")
        refusal(self, BadRow, 0, program_from, "  ")
        refusal(self, BadRow, 0, program_from, " ")
        refusal(self, BadRow, 0, program_from, "look a\r\nlook b")
        for sign in ("\r", "\x0b", "\x0c", "\x1c", "\x1d", "\x1e", "\x85", "\u2028", "\u2029"):
            refusal(self, BadRow, 0, program_from, f"look a{sign}look b\nlook c")
            refusal(self, BadRow, 1, program_from, f"look a\nset a '{sign}' s")

    def test_rows_further_in_than_they_may_be(self):
        for row in ("look a", "set a 1 s", "back s", "copy w", "pass"):
            self.check_bad(1, row, "  pass")
            self.check_bad(2, "begin", "  " + row, "    pass")
            self.check_bad(2, "begin", "  " + row, "      pass")
        for row in BLOCK_WORDS:
            self.check_bad(0, "  " + row)
            self.check_bad(1, row, "    pass")
            self.check_bad(2, row, "  begin", "      pass")
            self.check_bad(3, row, "  late", "pass", "  pass")
            self.check_bad(4, row, "  late", "    pass", "  pass", "    pass")

    def test_rows_that_come_out_again(self):
        rows = ["begin", "  late", "    in s", "      pass", "  pass", "  begin", "    pass", "pass"]
        due = (("begin", (("late", (("in", "s", (("pass",),)),)), ("pass",), ("begin", (("pass",),)))), ("pass",))
        self.assertEqual(plain(program_from("\n".join(rows))), plain(due))

    def test_the_first_such_row_goes(self):
        self.check_bad(1, "pass", "pass ", "  pass", "")
        self.check_bad(2, "begin", "  pass", "    pass", "look", "")
        self.check_bad(0, "look", "pass")

    def test_long_rows(self):
        for row in (
            "look " + "a" * 1595, set_row("9" * 1500), set_row("'" + "x" * 1500 + "'"), " " * 1600, "'" * 1600,
            "x" * 1600,
        ):
            self.check_bad(0, row)
            self.check_bad(299, *["pass"] * 299, row)
        self.check_bad(0, set_row("'" + "\\\\" * 700 + "'"))

    def test_a_deep_text_whose_last_row_is_spoilt(self):
        rows = ["  " * level + "begin" for level in range(290)]
        self.check_bad(290, *rows, "  " * 290 + "look")

    def test_each_row_spoilt_in_one_place(self):
        drawn = random.Random(20)
        told = {True: 0, False: 0}
        programs = [program for program in drawn_programs(40, 20, seed=21) if program]
        programs.append(tuple(("set", "a", value, "s") for value in VALUES))
        for program in programs:
            for rows in spoilt_rows(drawn, rows_written(program), 120):
                # A single empty row is the text without rows.
                rows = [] if rows == [""] else rows
                number = bad_row(rows)
                if number is None:
                    due = ("told", plain(program_read(rows)))
                else:
                    due = ("refused", "BadRow", plain(number))
                self.assertEqual(outcome(program_from, "\n".join(rows)), due, rows)
                told[number is None] += 1
        self.assertGreater(told[False], 2000)
        self.assertGreater(told[True], 400)

    def test_what_is_read_is_written_so_again(self):
        drawn = random.Random(22)
        for program in drawn_programs(20, 12, seed=23):
            for rows in spoilt_rows(drawn, rows_written(program), 40) if program else ():
                text = "\n".join(rows)
                if outcome(program_from, text)[0] == "told":
                    self.assertEqual(program_text(program_from(text)), text)


class Notes(unittest.TestCase):
    def test_none(self):
        self.assertEqual(plain(notes_text([])), plain(""))
        self.assertEqual(plain(notes_text(())), plain(""))

    def test_all_kinds(self):
        notes = [("look", "a", 5), ("missing", "b"), ("look", "look", "it's")]
        notes += [("back", "s", word) for word in ("none", "done", "used", "elsewhere", "turn")]
        notes += [("in", "w", "none"), ("in", "missing", "busy")]
        rows = ["look a 5", "missing b", "look look 'it\\'s'", "back s none", "back s done", "back s used"]
        rows += ["back s elsewhere", "back s turn", "in w none", "in missing busy"]
        for count in range(len(rows) + 1):
            self.assertEqual(plain(notes_text(notes[:count])), plain("\n".join(rows[:count])))
        self.assertEqual(notes_text(tuple(notes)), "\n".join(rows))

    def test_values(self):
        for value, word in WRITTEN:
            self.assertEqual(notes_text([("look", "a", value)]), f"look a {word}")
        for value in VALUES:
            self.assertEqual(notes_text([("look", "a", value)]), f"look a {value_written(value)}")

    def test_what_is_handed_in_stays_as_it_was(self):
        notes = [("look", "a", 5), ("missing", "b")]
        notes_text(notes)
        self.assertEqual(notes, [("look", "a", 5), ("missing", "b")])


if __name__ == "__main__":
    unittest.main()
