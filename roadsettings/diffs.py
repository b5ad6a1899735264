"""In what two tables of a store differ, and which nodes belong to tables."""

from roadsettings.marks import alike, is_number
from roadsettings.nodes import BARE_NUMBER, parts_in


def differing(store, one, other):
    """A tuple: the rising list of the names that are unlike in two tables, and how many pairs of nodes it takes."""
    store.check_table(one)
    store.check_table(other)
    names = []
    looks = compare(store, one, other, names)
    return (sorted(names), looks)


def compare(store, one, other, names):
    """Put the names that are unlike below two nodes behind the names; tells how many pairs are looked at."""
    if one == other:
        return 1
    one_parts = parts_in(store.node(one))
    other_parts = parts_in(store.node(other))
    if not one_parts or not other_parts:
        names.extend(unlike_names(store.pairs_below(one), store.pairs_below(other)))
        return 1
    looks = 1
    for one_part, other_part in zip(one_parts, other_parts):
        looks += compare(store, one_part, other_part, names)
    return looks


def unlike_names(pairs, other_pairs):
    """The list of the names whose values are unlike in two lists of pairs, one having none counted."""
    values = dict(pairs)
    others = dict(other_pairs)
    names = sorted(set(values) | set(others))
    return [name for name in names if not alike(values.get(name), others.get(name))]


def reached(store, tables):
    """The rising list of the nodes, but the bare one, that are these tables, or parts of those reached."""
    for table in tables:
        store.check_table(table)
    found = set()
    left = list(tables)
    while left:
        number = left.pop()
        if number != BARE_NUMBER and number not in found:
            found.add(number)
            left.extend(parts_in(store.node(number)))
    return sorted(found)


def fresh(store, old, new):
    """The rising list of the nodes reached from new and not from old, each a list of tables or one table."""
    known = reached(store, as_list(old))
    return [number for number in reached(store, as_list(new)) if number not in known]


def as_list(tables):
    """The list of some tables, or of one."""
    return [tables] if is_number(tables) else list(tables)
