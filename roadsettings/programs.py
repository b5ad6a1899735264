"""Programs: tuples of steps, some of which have a program within."""

from roadsettings.marks import is_name, is_value

# Whoever looks at, writes or reads steps asks here, so that they can't come to differ.
KINDS = {
    "set": ("name", "value", "slot"),
    "look": ("name",),
    "back": ("slot",),
    "begin": ("program",),
    "late": ("program",),
    "copy": ("slot",),
    "in": ("slot", "program"),
    "pass": (),
}


def kinds_of(word):
    """The tuple of the kinds of what stands behind a step's word, None where there is no such word."""
    return KINDS.get(word)


def is_program(thing):
    """Whether it is a tuple of steps."""
    return isinstance(thing, tuple) and all([is_step(part) for part in thing])


def is_step(thing):
    """Whether it is one of the eight steps."""
    # The word is asked for its kind first: a list can't be looked up.
    if not isinstance(thing, tuple) or not thing or not isinstance(thing[0], str):
        return False
    kinds = kinds_of(thing[0])
    if kinds is None or len(thing) != 1 + len(kinds):
        return False
    return all([is_of_kind(part, kind) for part, kind in zip(thing[1:], kinds)])


def is_of_kind(thing, kind):
    """Whether it may stand in a step where that kind is due."""
    if kind == "program":
        return is_program(thing)
    if kind == "value":
        return is_value(thing)
    return is_name(thing)


def has_within(word):
    """Whether the steps with that word have a program within."""
    return "program" in kinds_of(word)


def program_within(step):
    """The program within a step, an empty one where it has none."""
    return step[-1] if has_within(step[0]) else ()


def steps_in(program):
    """How many steps there are, those of programs within counted too."""
    return sum([1 + steps_in(program_within(step)) for step in program])


def names_in(program):
    """The list of the names of all set and look steps, each once, as they come."""
    # A dict keeps the order in which the names came.
    names = {}
    for step in program:
        if step[0] in ("set", "look"):
            names[step[1]] = True
        for name in names_in(program_within(step)):
            names[name] = True
    return list(names)


def turned(program, word):
    """The program with each begin turned to late, for the word "late", or each late to begin, for "begin"."""
    return tuple([turned_step(step, word) for step in program])


def turned_step(step, word):
    """The step with the word in the place of begin or late, within it too."""
    if not has_within(step[0]):
        return step
    head = (word,) if step[0] in ("begin", "late") else step[:-1]
    return head + (turned(program_within(step), word),)
