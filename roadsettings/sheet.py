"""Sheets: settings, picks and a program in one text, and what comes of weaving it."""

from roadsettings.errors import BadRow
from roadsettings.loom import woven
from roadsettings.rows import note_row, number_from, parts_from
from roadsettings.texts import heads_from, moved_in, program_of

MOST_FIGURES_OF_PICKS = 4


def sheet_from(text):
    """A tuple of the settings, the picks and the program; the first row that isn't as it is to be is refused."""
    rows = text.split("\n")
    settings = settings_ahead(rows)
    weave = len(settings)
    picks = picks_from(rows[weave]) if weave < len(rows) else None
    if picks is None:
        raise BadRow(weave)
    heads = heads_from(rows[weave + 1:], weave + 1)
    names = [name for name, default in settings]
    check_told_once(names)
    check_names(heads, weave + 1, names)
    return (settings, picks, program_of(heads))


def settings_ahead(rows):
    """The list of pairs of the settings' rows, up to the first row that is none."""
    settings = []
    for row in rows:
        setting = setting_from(row)
        if setting is None:
            break
        settings.append(setting)
    return settings


def setting_from(row):
    """The pair of a name and its default that is just so written, None where there is none."""
    word, *words = row.split(" ")
    kinds = ["name"] if len(words) == 1 else ["name", "value"]
    parts = parts_from(words, kinds)
    if word != "setting" or parts is None:
        return None
    return (parts[0], parts[1] if len(parts) == 2 else None)


def picks_from(row):
    """The list of the picks of a row that is just so written, None where there is none."""
    word, *words = row.split(" ")
    picks = [number_from(pick, MOST_FIGURES_OF_PICKS) for pick in words]
    # No minus stands there: it would be no number of figures alone.
    if word != "weave" or None in picks or any([pick < 0 for pick in picks]):
        return None
    return picks


def check_told_once(names):
    """Refuse the first row that tells a setting again; the settings' rows are the first ones."""
    for number, name in enumerate(names):
        if name in names[:number]:
            raise BadRow(number)


def check_names(heads, first, names):
    """Refuse the first set or look row whose name is none of these; rows are counted from that first one on."""
    for number, (level, head) in enumerate(heads, start=first):
        if head[0] in ("set", "look") and head[1] not in names:
            raise BadRow(number)


def answers(text):
    """The rows of what weaving the sheet notes: for each path one of its numbers, and those of its notes."""
    settings, picks, program = sheet_from(text)
    notes, turns = woven(settings, program, picks)
    rows = []
    for path, noted in notes:
        rows.append(" ".join(["task"] + [str(number) for number in path]))
        rows.extend(moved_in([note_row(note) for note in noted]))
    return "\n".join(rows)


def turns_text(text):
    """The paths of the turns of weaving the sheet."""
    settings, picks, program = sheet_from(text)
    notes, turns = woven(settings, program, picks)
    return " ".join([path_text(path) for path in turns])


def path_text(path):
    """A path's numbers, or a sign for that of the first task."""
    return ".".join([str(number) for number in path]) if path else "-"
