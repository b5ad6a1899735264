"""Names, values, and the marks by which tables are parted."""

LONGEST_NAME = 8
BASE = 4


def is_name(thing):
    """Whether it is a text of one to eight letters a to z."""
    if not isinstance(thing, str):
        return False
    return 1 <= len(thing) <= LONGEST_NAME and all(["a" <= sign <= "z" for sign in thing])


def is_number(thing):
    """Whether it is a whole number."""
    # Python counts True and False among its whole numbers; they are none here.
    return isinstance(thing, int) and not isinstance(thing, bool)


def is_value(thing):
    """Whether it is a number, or a text of signs from the blank to `~`; None is no value."""
    if isinstance(thing, str):
        return all([" " <= sign <= "~" for sign in thing])
    return is_number(thing)


def alike(one, other):
    """Whether two, each a value or None, are of one kind and the same."""
    # A number, a text and None are never equal to one another, so the kinds needn't be asked.
    return one == other


def mark(name):
    """The sum of the numbers of the name's letters, a being 1, each times its place, from 1 on."""
    total = 0
    for place, letter in enumerate(name, start=1):
        total += place * (ord(letter) - ord("a") + 1)
    return total


def digit(number, level):
    """The figure at that level, the lowest being 0, of a number from 0 on written to the base four."""
    for below in range(level):
        number = number // BASE
    return number % BASE
