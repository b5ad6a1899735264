"""Texts of programs and of notes, and programs from texts."""

from roadsettings.errors import BadRow
from roadsettings.programs import has_within, program_within
from roadsettings.rows import head_from, note_row, step_row

FURTHER_IN = "  "


def program_text(program):
    """The program's rows, parted by line feeds."""
    return "\n".join(program_rows(program))


def program_rows(program):
    """The list of the program's rows, those of programs within behind their own row."""
    rows = []
    for step in program:
        rows.append(step_row(step))
        rows.extend(moved_in(program_rows(program_within(step))))
    return rows


def moved_in(rows):
    """The list of the rows, each further in."""
    return [FURTHER_IN + row for row in rows]


def program_from(text):
    """The program that is written so; the first row that isn't as it is to be is refused."""
    # Without rows there is no text to part: parting it would tell one empty row.
    rows = text.split("\n") if text else []
    return program_of(heads_from(rows, 0))


def heads_from(rows, first):
    """The list of pairs, for each row, of how far in it stands and its step without the program within.

    The rows are counted from that first number on, for the refusal.
    """
    heads = []
    most = 0
    for number, row in enumerate(rows, start=first):
        words = row.lstrip(" ")
        level = (len(row) - len(words)) // len(FURTHER_IN)
        head = head_from(words)
        if head is None or level > most or row != FURTHER_IN * level + words:
            raise BadRow(number)
        heads.append((level, head))
        most = level + 1 if has_within(head[0]) else level
    return heads


def program_of(heads):
    """The program of such pairs."""
    # From the last row back, so that a program within is whole when its own row comes.
    steps_at = {}
    for level, head in heads[::-1]:
        step = head
        if has_within(head[0]):
            step = head + (tuple(steps_at.pop(level + 1, [])),)
        steps_at[level] = [step] + steps_at.get(level, [])
    return tuple(steps_at.get(0, []))


def notes_text(notes):
    """The rows of the notes, parted by line feeds."""
    return "\n".join([note_row(note) for note in notes])
