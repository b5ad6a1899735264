"""What the tests of tables and roads share: names, values, drawn deeds, and the document's words reckoned plainly."""

import random

VALUES = [0, "0", 1, "1", "", " ", -1, "-1", 2, "None", "~", "it's \\ so", 10**30 - 1, 1 - 10**30, "x" * 40]


def mark_of(name):
    """The mark by the words of [4], beside the program's own."""
    return sum((1 + "abcdefghijklmnopqrstuvwxyz".index(letter)) * place for place, letter in enumerate(name, 1))


def digit_of(number, level):
    return number // 4**level % 4


def names_by_mark():
    """Many drawn names of one to eight letters, by their marks."""
    drawn = random.Random(4)
    found = {}
    for count in range(12000):
        letters = drawn.choice(["abc", "abcdefgh", "abcdefghijklmnopqrstuvwxyz", "vwxyz"])
        name = "".join(drawn.choice(letters) for at in range(drawn.randint(1, 8)))
        names = found.setdefault(mark_of(name), [])
        if name not in names:
            names.append(name)
    return found


def pools():
    """Pairs of a word and a list of names: of one mark, of marks alike in their low figures, of any marks."""
    found = names_by_mark()
    drawn = random.Random(5)
    most = max(found, key=lambda mark: (len(found[mark]), mark))
    last_level = [mark for mark in found if mark % 256 == 60]
    low = [mark for mark in found if mark % 16 == 7]
    every = sorted(name for names in found.values() for name in names)
    return [
        ("one mark", found[most][:12]),
        ("marks that part at the last level", [name for mark in last_level for name in found[mark][:2]]),
        ("marks alike in their low figures", drawn.sample([name for mark in low for name in found[mark][:3]], 24)),
        ("few of any marks", drawn.sample(every, 6)),
        ("any marks", drawn.sample(every, 115)),
    ]


POOLS = pools()


def plain(thing):
    """The thing with its kinds beside it, all through, so that 1 and True, or a tuple and a list, aren't one."""
    if isinstance(thing, (tuple, list)):
        return (type(thing).__name__, [plain(part) for part in thing])
    return (type(thing).__name__, thing)


def rising(values):
    """The list of a dict's pairs, rising by name."""
    return [(name, values[name]) for name in sorted(values)]


def shape_due(pairs, level=0):
    """What [5] tells of the pairs: nodes with their parts in the place of numbers."""
    marks = {mark_of(name) for name, value in pairs}
    if not pairs:
        return ("bare",)
    if len(marks) == 1:
        return ("leaf", min(marks), tuple(sorted(pairs, key=lambda pair: pair[0])))
    below = [[pair for pair in pairs if digit_of(mark_of(pair[0]), level) == figure] for figure in range(4)]
    return ("fork", tuple(shape_due(part, level + 1) for part in below))


def shape_told(store, number):
    """What the store tells, node by node, in the same form; only node 0 may be the bare one."""
    node = store.node(number)
    if (node == ("bare",)) != (number == 0):
        raise AssertionError(f"node {number} is {node}")
    if node[0] != "fork":
        return node
    if len(node) != 2 or plain(node[1])[0] != "tuple" or [plain(part)[0] for part in node[1]] != ["int"] * 4:
        raise AssertionError(f"node {number} is {node}")
    return ("fork", tuple(shape_told(store, part) for part in node[1]))


def nodes_below(store, number):
    """The set of all nodes, but 0, that are the node or its parts, and so on."""
    node = store.node(number)
    found = {number} - {0}
    for part in node[1] if node[0] == "fork" else ():
        found |= nodes_below(store, part)
    return found


def unlike_due(values, others):
    """The rising list of the names that two dicts give unlike values, one having none counted."""
    return sorted(
        name
        for name in {**values, **others}
        if plain(values.get(name)) != plain(others.get(name))
    )


def looks_due(store, one, other):
    """How many pairs of nodes [7] looks at."""
    first, second = store.node(one), store.node(other)
    if one == other or first[0] != "fork" or second[0] != "fork":
        return 1
    return 1 + sum(looks_due(store, *parts) for parts in zip(first[1], second[1]))


def refusal(case, kind, what, deed, *things):
    """The deed is refused by just that class, of just that."""
    with case.assertRaises(kind) as caught:
        deed(*things)
    case.assertIs(type(caught.exception), kind)
    case.assertEqual(plain(caught.exception.what), plain(what))


def change_lists(case, asks):
    """Lists that were told are changed, and each ask tells the same again."""
    for ask in asks:
        due = list(ask())
        told = ask()
        told.append("more")
        told[0] = "other"
        told.reverse()
        case.assertEqual(plain(ask()), plain(due))
        ask().clear()
        case.assertEqual(plain(ask()), plain(due))


def draw_step(drawn, names):
    """A drawn name with a value, or None for taking it away."""
    return drawn.choice(names), drawn.choice(VALUES) if drawn.random() < 0.65 else None


def after(values, name, value):
    """The dict with that value for the name, or without it for None."""
    changed = {other: values[other] for other in values if other != name}
    if value is not None:
        changed[name] = value
    return changed


def do(store, table, name, value):
    """put, or without for None."""
    return store.without(table, name) if value is None else store.put(table, name, value)


def draw_tables(store, names, count, seed):
    """The list of pairs (table, dict) that count drawn deeds tell, from the last table or an older one."""
    drawn = random.Random(seed)
    told = [(store.empty(), {})]
    for deed in range(count):
        table, values = told[-1] if drawn.random() < 0.7 else drawn.choice(told)
        name, value = draw_step(drawn, names)
        told.append((do(store, table, name, value), after(values, name, value)))
    return told


def draw_roads(roads, names, count, seed):
    """The list, place by place, of tuples (ahead, step, dict) of drawn steps, behind the last place or any one."""
    drawn = random.Random(seed)
    rows = [(None, None, {})]
    for deed in range(count):
        ahead = len(rows) - 1 if drawn.random() < 0.75 else drawn.randrange(len(rows))
        name, value = draw_step(drawn, names)
        if value is None:
            place, step = roads.clear(ahead, name), ("clear", name)
        else:
            place, step = roads.put(ahead, name, value), ("set", name, value)
        if plain(place) != ("int", len(rows)):
            raise AssertionError(f"place {place} is told where {len(rows)} is due")
        rows.append((ahead, step, after(rows[ahead][2], name, value)))
    return rows


def road_due(rows, place):
    """The list of the places on the road to that one."""
    ahead = rows[place][0]
    return ([] if ahead is None else road_due(rows, ahead)) + [place]
