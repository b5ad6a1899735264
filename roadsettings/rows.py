"""Rows: how values, steps and notes are written in one row, and how they are read again."""

from roadsettings.marks import is_name, is_number, is_value
from roadsettings.programs import kinds_of

MOST_FIGURES = 30
MOST_SIGNS = 40


def value_text(value):
    """The value as it is written."""
    if is_number(value):
        return str(value)
    slashed = value.replace("\\", "\\\\").replace("'", "\\'")
    return "'" + slashed + "'"


def value_from(word):
    """The value that is just so written, None where there is none."""
    if not word.startswith("'"):
        return number_from(word, MOST_FIGURES)
    text = unslashed(word[1:-1])
    # To write it again shows a quote that is wanting, or a slash too many or too few.
    fits = len(text) <= MOST_SIGNS and is_value(text) and value_text(text) == word
    return text if fits else None


def unslashed(written):
    """The text without each slash that stands ahead of a sign."""
    text = ""
    behind_slash = False
    for sign in written:
        behind_slash = sign == "\\" and not behind_slash
        if not behind_slash:
            text += sign
    return text


def number_from(word, most):
    """The number, of at most so many figures, that is just so written, None where there is none."""
    figures = word[1:] if word.startswith("-") else word
    if not 1 <= len(figures) <= most or not all(["0" <= sign <= "9" for sign in figures]):
        return None
    # To write it again shows noughts ahead, and the minus ahead of 0.
    return int(word) if str(int(word)) == word else None


def parts_from(words, kinds):
    """The list of what is written in a row's words behind the first, by these kinds; None where it isn't."""
    whole = whole_words(words, kinds)
    if len(whole) != len(kinds):
        return None
    parts = [part_from(word, kind) for word, kind in zip(whole, kinds)]
    return None if None in parts else parts


def whole_words(words, kinds):
    """The words, with those between which a value's own blanks stand made one."""
    if "value" not in kinds or len(words) <= len(kinds):
        return words
    at = kinds.index("value")
    end = at + 1 + len(words) - len(kinds)
    return words[:at] + [" ".join(words[at:end])] + words[end:]


def part_from(word, kind):
    """The value, name or slot that is written so, None where there is none."""
    if kind == "value":
        return value_from(word)
    return word if is_name(word) else None


def kinds_in_row(word):
    """The list of the kinds that stand in the row of a step with that word: all but the program within."""
    return [kind for kind in kinds_of(word) if kind != "program"]


def step_row(step):
    """The row of a step, without those of the program within."""
    words = [step[0]]
    for part, kind in zip(step[1:], kinds_in_row(step[0])):
        words.append(value_text(part) if kind == "value" else part)
    return " ".join(words)


def head_from(row):
    """The step that is just so written, still without its program within; None where there is none."""
    word, *words = row.split(" ")
    if kinds_of(word) is None:
        return None
    parts = parts_from(words, kinds_in_row(word))
    return None if parts is None else (word,) + tuple(parts)


def note_row(note):
    """The row of a note."""
    if note[0] == "look":
        word, name, value = note
        return " ".join([word, name, value_text(value)])
    return " ".join(note)
