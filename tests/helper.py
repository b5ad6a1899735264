"""What the tests share: names, values, drawn deeds and programs, and the document's words reckoned plainly."""

import random
import re

from roadsettings import errors

VALUES = [0, "0", 1, "1", "", " ", -1, "-1", 2, "None", "~", "it's \\ so", 10**30 - 1, 1 - 10**30, "x" * 40]


def mark_of(name):
    """The mark by the words of [4], beside the program's own."""
    return sum((1 + "abcdefghijklmnopqrstuvwxyz".index(letter)) * place for place, letter in enumerate(name, 1))


def digit_of(number, level):
    return number // 4**level % 4


def names_by_mark():
    """Many drawn names of one to eight letters, by their marks."""
    drawn = random.Random(4)
    found = {}
    for count in range(12000):
        letters = drawn.choice(["abc", "abcdefgh", "abcdefghijklmnopqrstuvwxyz", "vwxyz"])
        name = "".join(drawn.choice(letters) for at in range(drawn.randint(1, 8)))
        names = found.setdefault(mark_of(name), [])
        if name not in names:
            names.append(name)
    return found


def pools():
    """Pairs of a word and a list of names: of one mark, of marks alike in their low figures, of any marks."""
    found = names_by_mark()
    drawn = random.Random(5)
    most = max(found, key=lambda mark: (len(found[mark]), mark))
    last_level = [mark for mark in found if mark % 256 == 60]
    low = [mark for mark in found if mark % 16 == 7]
    every = sorted(name for names in found.values() for name in names)
    return [
        ("one mark", found[most][:12]),
        ("marks that part at the last level", [name for mark in last_level for name in found[mark][:2]]),
        ("marks alike in their low figures", drawn.sample([name for mark in low for name in found[mark][:3]], 24)),
        ("few of any marks", drawn.sample(every, 6)),
        ("any marks", drawn.sample(every, 115)),
    ]


POOLS = pools()


def plain(thing):
    """The thing with its kinds beside it, all through, so that 1 and True, or a tuple and a list, aren't one."""
    if isinstance(thing, (tuple, list)):
        return (type(thing).__name__, [plain(part) for part in thing])
    return (type(thing).__name__, thing)


def rising(values):
    """The list of a dict's pairs, rising by name."""
    return [(name, values[name]) for name in sorted(values)]


def shape_due(pairs, level=0):
    """What [5] tells of the pairs: nodes with their parts in the place of numbers."""
    marks = {mark_of(name) for name, value in pairs}
    if not pairs:
        return ("bare",)
    if len(marks) == 1:
        return ("leaf", min(marks), tuple(sorted(pairs, key=lambda pair: pair[0])))
    below = [[pair for pair in pairs if digit_of(mark_of(pair[0]), level) == figure] for figure in range(4)]
    return ("fork", tuple(shape_due(part, level + 1) for part in below))


def shape_told(store, number):
    """What the store tells, node by node, in the same form; only node 0 may be the bare one."""
    node = store.node(number)
    if (node == ("bare",)) != (number == 0):
        raise AssertionError(f"node {number} is {node}")
    if node[0] != "fork":
        return node
    if len(node) != 2 or plain(node[1])[0] != "tuple" or [plain(part)[0] for part in node[1]] != ["int"] * 4:
        raise AssertionError(f"node {number} is {node}")
    return ("fork", tuple(shape_told(store, part) for part in node[1]))


def nodes_below(store, number):
    """The set of all nodes, but 0, that are the node or its parts, and so on."""
    node = store.node(number)
    found = {number} - {0}
    for part in node[1] if node[0] == "fork" else ():
        found |= nodes_below(store, part)
    return found


def unlike_due(values, others):
    """The rising list of the names that two dicts give unlike values, one having none counted."""
    return sorted(
        name
        for name in {**values, **others}
        if plain(values.get(name)) != plain(others.get(name))
    )


def looks_due(store, one, other):
    """How many pairs of nodes [7] looks at."""
    first, second = store.node(one), store.node(other)
    if one == other or first[0] != "fork" or second[0] != "fork":
        return 1
    return 1 + sum(looks_due(store, *parts) for parts in zip(first[1], second[1]))


def refusal(case, kind, what, deed, *things):
    """The deed is refused by just that class, of just that."""
    with case.assertRaises(kind) as caught:
        deed(*things)
    case.assertIs(type(caught.exception), kind)
    case.assertEqual(plain(caught.exception.what), plain(what))


def change_lists(case, asks):
    """Lists that were told are changed, and each ask tells the same again."""
    for ask in asks:
        due = list(ask())
        told = ask()
        told.append("more")
        told[0] = "other"
        told.reverse()
        case.assertEqual(plain(ask()), plain(due))
        ask().clear()
        case.assertEqual(plain(ask()), plain(due))


def draw_step(drawn, names):
    """A drawn name with a value, or None for taking it away."""
    return drawn.choice(names), drawn.choice(VALUES) if drawn.random() < 0.65 else None


def after(values, name, value):
    """The dict with that value for the name, or without it for None."""
    changed = {other: values[other] for other in values if other != name}
    if value is not None:
        changed[name] = value
    return changed


def do(store, table, name, value):
    """put, or without for None."""
    return store.without(table, name) if value is None else store.put(table, name, value)


def draw_tables(store, names, count, seed):
    """The list of pairs (table, dict) that count drawn deeds tell, from the last table or an older one."""
    drawn = random.Random(seed)
    told = [(store.empty(), {})]
    for deed in range(count):
        table, values = told[-1] if drawn.random() < 0.7 else drawn.choice(told)
        name, value = draw_step(drawn, names)
        told.append((do(store, table, name, value), after(values, name, value)))
    return told


def draw_roads(roads, names, count, seed):
    """The list, place by place, of tuples (ahead, step, dict) of drawn steps, behind the last place or any one."""
    drawn = random.Random(seed)
    rows = [(None, None, {})]
    for deed in range(count):
        ahead = len(rows) - 1 if drawn.random() < 0.75 else drawn.randrange(len(rows))
        name, value = draw_step(drawn, names)
        if value is None:
            place, step = roads.clear(ahead, name), ("clear", name)
        else:
            place, step = roads.put(ahead, name, value), ("set", name, value)
        if plain(place) != ("int", len(rows)):
            raise AssertionError(f"place {place} is told where {len(rows)} is due")
        rows.append((ahead, step, after(rows[ahead][2], name, value)))
    return rows


def road_due(rows, place):
    """The list of the places on the road to that one."""
    ahead = rows[place][0]
    return ([] if ahead is None else road_due(rows, ahead)) + [place]


def outcome(ask, *things):
    """What an ask comes to: what it tells, or by which class and of what it is refused."""
    try:
        return ("told", plain(ask(*things)))
    except errors.RoadError as refused:
        return ("refused", type(refused).__name__, plain(refused.what))


class HallDue:
    """What [11] to [14] ask of a hall, in plain dicts and lists of the test's own."""

    def __init__(self):
        self.settings = []
        self.values = [{}]
        self.spots = [0]
        self.places = 1
        self.entered = [0]
        self.tokens = []

    def open_beside(self, token):
        """The open tokens with that one's world and name, maybe itself among them."""
        return [at for at, row in enumerate(self.tokens) if row[3] and row[:2] == self.tokens[token][:2]]

    def is_world(self, world):
        return world in range(len(self.values))

    def is_declared(self, name):
        return name in [known for known, default in self.settings]

    def refused(self, deed, *things):
        """The name of the class by which a deed is refused, None where it isn't."""
        what = things[0] if things else None
        if deed == "declare":
            return "Known" if self.is_declared(what) else None
        if deed in ("copy", "enter") and not self.is_world(what):
            return "NoWorld"
        if deed == "enter":
            return "Busy" if what in self.entered else None
        if deed == "leave":
            return "AtHome" if len(self.entered) == 1 else None
        if deed == "set_to":
            return None if self.is_declared(what) else "NoSetting"
        return self.back_refused(what) if deed == "back" else None

    def back_refused(self, token):
        if token not in range(len(self.tokens)):
            return "NoToken"
        world, name, old, is_open = self.tokens[token]
        if not is_open:
            return "Used"
        if world != self.entered[-1]:
            return "Elsewhere"
        return "OutOfTurn" if max(self.open_beside(token)) > token else None

    def go_on(self, name, value):
        world = self.entered[-1]
        self.values[world] = after(self.values[world], name, value)
        self.spots[world] = self.places
        self.places += 1

    def do(self, deed, *things):
        """Do a deed that isn't refused, and tell what it is to tell."""
        if deed == "declare":
            self.settings.append(things)
        if deed == "copy":
            self.values.append(dict(self.values[things[0]]))
            self.spots.append(self.spots[things[0]])
            return len(self.values) - 1
        if deed == "enter":
            self.entered.append(things[0])
        if deed == "leave":
            self.entered.pop()
        if deed == "set_to":
            world = self.entered[-1]
            self.tokens.append((world, things[0], self.values[world].get(things[0]), True))
            self.go_on(*things)
            return len(self.tokens) - 1
        if deed == "back":
            world, name, old, is_open = self.tokens[things[0]]
            self.tokens[things[0]] = (world, name, old, False)
            self.go_on(name, old)
        return None

    def outcome(self, deed, *things):
        """What the deed comes to, in the form of outcome."""
        kind = self.refused(deed, *things)
        if kind is not None:
            return ("refused", kind, plain(things[0] if things else self.entered[-1]))
        return ("told", plain(self.do(deed, *things)))

    def look_due(self, world, name):
        if not self.is_world(world):
            return ("refused", "NoWorld", plain(world))
        if not self.is_declared(name):
            return ("refused", "NoSetting", plain(name))
        value = self.values[world].get(name, dict(self.settings)[name])
        return ("refused", "Missing", plain(name)) if value is None else ("told", plain(value))

    def look_or_due(self, name, other):
        if not self.is_declared(name):
            return ("refused", "NoSetting", plain(name))
        return ("told", plain(self.values[self.entered[-1]].get(name, other)))

    def told(self, names):
        """All that a hall is to tell, in the form of told_of_hall."""
        now = self.entered[-1]
        seen = [(name, self.values[now].get(name, default)) for name, default in self.settings]
        worlds = range(len(self.values))
        numbers = range(len(self.tokens))
        open_ones = [[at for at in numbers if self.tokens[at][3] and self.tokens[at][0] == world] for world in worlds]
        turns = [max(self.open_beside(at), default=None) for at in numbers]
        return [
            plain([self.settings, len(worlds), self.spots, now, self.entered, self.tokens, open_ones, turns]),
            plain([pair for pair in seen if pair[1] is not None]),
            [self.look_due(world, name) for world in range(-1, len(worlds) + 1) for name in names],
            [self.look_due(now, name) for name in names],
            [self.look_or_due(name, other) for name in names for other in (None, "", 0)],
            plain(self.places),
        ]


def told_of_hall(hall, tokens, names):
    """All that a hall tells, that has so many tokens."""
    worlds = range(hall.worlds())
    numbers = range(tokens)
    rows = [
        hall.settings(), hall.worlds(), [hall.place(world) for world in worlds], hall.now(), hall.entered(),
        [hall.token(at) for at in numbers], [hall.open_tokens(world) for world in worlds],
        [hall.in_turn(at) for at in numbers],
    ]
    return [
        plain(rows),
        plain(hall.seen()),
        [outcome(hall.look_in, world, name) for world in range(-1, len(worlds) + 1) for name in names],
        [outcome(hall.look, name) for name in names],
        [outcome(hall.look_or, name, other) for name in names for other in (None, "", 0)],
        plain(hall.roads().places()),
    ]


def draw_deed(drawn, due, names):
    """A drawn deed of a hall with what is handed in; some of them are to be refused."""
    worlds, tokens = len(due.values), len(due.tokens)
    chance = drawn.random()
    if chance < 0.35:
        return ("set_to", drawn.choice(names), drawn.choice(VALUES))
    if chance < 0.60:
        return ("back", drawn.randint(max(-1, tokens - 6), tokens) if chance < 0.5 else drawn.randint(-1, tokens))
    if chance < 0.75:
        return ("enter", drawn.randint(-1, worlds))
    if chance < 0.87 or worlds > 9:
        return ("leave",)
    return ("copy", drawn.randint(-1, worlds))


SHAPES = {"set": "nvn", "look": "n", "back": "n", "begin": "p", "late": "p", "copy": "n", "in": "np", "pass": ""}


def is_part_due(thing, kind):
    if kind == "p":
        return is_program_due(thing)
    if kind == "v" and type(thing) is int:
        return True
    return type(thing) is str and re.fullmatch("[ -~]*" if kind == "v" else "[a-z]{1,8}", thing) is not None


def is_program_due(thing):
    """Whether a thing is a program, by the words of [16]."""
    return type(thing) is tuple and all(
        type(step) is tuple
        and len(step) > 0
        and type(step[0]) is str
        and step[0] in SHAPES
        and len(step) == 1 + len(SHAPES[step[0]])
        and all(is_part_due(part, kind) for part, kind in zip(step[1:], SHAPES[step[0]]))
        for step in thing
    )


def draw_program(drawn, count, names, slots, deep=6, words=tuple(SHAPES)):
    """A drawn program of just so many steps, with at most so many blocks within one another."""
    steps = []
    while count > 0:
        word = drawn.choice(words)
        if "p" in SHAPES[word] and deep == 0:
            continue
        count -= 1
        step = [word]
        for kind in SHAPES[word]:
            if kind == "p":
                inner = min(count, drawn.choice([0, 1, 2, 4, 8, count]))
                count -= inner
                step.append(draw_program(drawn, inner, names, slots, deep - 1, words))
            else:
                is_setting = word in ("set", "look") and len(step) == 1
                step.append(drawn.choice(VALUES if kind == "v" else names if is_setting else slots))
        steps.append(tuple(step))
    return tuple(steps)


def warmed(drawn, program, slots, is_task=True):
    """The program with copies ahead of what tasks do, so that fewer of its slots are empty."""
    steps = [("copy", slot) for slot in slots if is_task and len(program) > 2 and drawn.random() < 0.8]
    for step in program:
        if "p" in SHAPES[step[0]]:
            step = step[:-1] + (warmed(drawn, step[-1], slots, step[0] != "in"),)
        steps.append(step)
    return tuple(steps)


def blocks_in(program):
    """How many blocks stand within one another at most."""
    return max([0] + [1 + blocks_in(step[-1]) for step in program if "p" in SHAPES[step[0]]])


def nested(words, program):
    """The program within blocks of these words, the first word's the outermost."""
    for word in reversed(words):
        program = (("in", "slot", program) if word == "in" else (word, program),)
    return program


class WorldDue:
    """A world of a loom: the values that are set there, and its tokens."""

    def __init__(self, values):
        self.values = dict(values)
        self.tokens = []


class TaskDue:
    """A task or call: its steps are run by a generator that stops ahead of each."""

    def __init__(self, path, world, program):
        self.path = path
        self.own = world
        self.within = []
        self.tokens = {}
        self.copies = {}
        self.notes = []
        self.children = 0
        self.begun = []
        self.steps = self.doing(program, world)
        self.over = False
        self.go_on()

    def go_on(self):
        self.over = next(self.steps, "over") == "over"

    def doing(self, program, world):
        self.within.append(world)
        for step in program:
            yield "a step is due"
            if step[0] == "in":
                target = self.copies.get(step[1])
                if target is None or target in self.within:
                    self.notes.append(("in", step[1], "none" if target is None else "busy"))
                else:
                    yield from self.doing(step[2], target)
            elif step[0] in ("begin", "late"):
                self.begun.append((step[0], TaskDue(self.path + (self.children,), WorldDue(world.values), step[1])))
                self.children += 1
            elif step[0] == "copy":
                self.copies[step[1]] = WorldDue(world.values)
            elif step[0] == "back":
                token = self.tokens.get(step[1])
                self.notes.append(("back", step[1], "none" if token is None else self.put_back(token, world)))
            elif step[0] == "set":
                token = {"world": world, "name": step[1], "old": world.values.get(step[1]), "open": True}
                world.tokens.append(token)
                world.values[step[1]] = step[2]
                self.tokens[step[3]] = token
            elif step[0] == "look":
                self.notes.append(("look", step[1], world.values.get(step[1])))
        self.within.pop()

    def put_back(self, token, world):
        if not token["open"]:
            return "used"
        if token["world"] is not world:
            return "elsewhere"
        at = [other is token for other in world.tokens].index(True)
        if any(other["open"] and other["name"] == token["name"] for other in world.tokens[at + 1:]):
            return "turn"
        token["open"] = False
        world.values = after(world.values, token["name"], token["old"])
        return "done"


class LoomDue:
    """What [17] and [18] ask of a loom, in objects of the test's own."""

    def __init__(self, settings, program):
        self.defaults = dict(settings)
        first = TaskDue((), WorldDue({}), program)
        self.all = {(): first}
        self.tasks = [first]
        self.calls = []

    def ready(self):
        return [task.path for task in self.tasks if not task.over]

    def waiting(self):
        return [call.path for call in self.calls]

    def turn(self, pick):
        while not self.ready() and self.calls:
            self.tasks.append(self.calls.pop(0))
        ready = [task for task in self.tasks if not task.over]
        if not ready:
            return None
        task = ready[pick % len(ready)]
        task.go_on()
        for word, other in task.begun:
            self.all[other.path] = other
            (self.tasks if word == "begin" else self.calls).append(other)
        task.begun = []
        return task.path

    def note_due(self, note):
        """A look's note, with the default or missing in the place of None."""
        if note[0] != "look" or note[2] is not None:
            return note
        default = self.defaults[note[1]]
        return ("missing", note[1]) if default is None else ("look", note[1], default)

    def notes(self, path):
        return [self.note_due(note) for note in self.all[path].notes]

    def sees(self, path):
        task = self.all[path]
        return rising((task.own if task.over else task.within[-1]).values)

    def paths(self):
        return sorted(self.all)


def told_of_loom(loom):
    """All that a loom tells, or what is due of one."""
    paths = loom.paths()
    rows = [[path, loom.notes(path), loom.sees(path)] for path in paths]
    return plain([loom.ready(), loom.waiting(), paths, rows])


def woven_due(settings, program, picks):
    """What [18] asks of woven."""
    loom = LoomDue(settings, program)
    turns = [loom.turn(pick) for pick in picks]
    while turns[-1:] != [None]:
        turns.append(loom.turn(0))
    return ([(path, loom.notes(path)) for path in loom.paths()], [path for path in turns if path is not None])


NAME_DUE = "[a-z]{1,8}"
VALUE_DUE = r"0|-?[1-9][0-9]{0,29}|'(?:[ -&(-\[\]-~]|\\['\\]){0,40}'"


def value_written(value):
    """A value by the words of [19]."""
    if type(value) is int:
        return str(value)
    return "'" + "".join("\\" + sign if sign in "'\\" else sign for sign in value) + "'"


def value_read(word):
    return re.sub(r"\\(.)", r"\1", word[1:-1]) if word[0] == "'" else int(word)


def rows_written(program):
    """The list of a program's rows, by the words of [19]."""
    rows = []
    for step in program:
        shape = SHAPES[step[0]]
        words = [value_written(part) if kind == "v" else part for part, kind in zip(step[1:], shape) if kind != "p"]
        rows.append(" ".join([step[0]] + words))
        rows += ["  " + row for row in (rows_written(step[-1]) if "p" in shape else [])]
    return rows


def row_read(row):
    """How many blanks stand ahead in a program's row, and its step without the program within; None of no such row."""
    for word, shape in SHAPES.items():
        parts = {"n": f" ({NAME_DUE})", "v": f" ({VALUE_DUE})", "p": ""}
        found = re.fullmatch("((?:  )*)" + word + "".join(parts[kind] for kind in shape), row)
        if found:
            blanks, *words = found.groups()
            kinds = shape.replace("p", "")
            step = [value_read(part) if kind == "v" else part for part, kind in zip(words, kinds)]
            return len(blanks), (word, *step)
    return None


def bad_row(rows):
    """The number of the first row of a program that isn't so written or stands too far in; None where all are right."""
    most = 0
    for number, row in enumerate(rows):
        read = row_read(row)
        if read is None or read[0] > most:
            return number
        most = read[0] + (2 if "p" in SHAPES[read[1][0]] else 0)
    return None


def program_read(rows, blanks=0):
    """The program of rows that are all right."""
    steps = []
    for at, row in enumerate(rows):
        ahead, step = row_read(row)
        if ahead == blanks:
            behind = [row_read(other)[0] > blanks for other in rows[at + 1:]] + [False]
            inner = rows[at + 1:at + 1 + behind.index(False)]
            steps.append(step + ((program_read(inner, blanks + 2),) if "p" in SHAPES[step[0]] else ()))
    return tuple(steps)


SIGNS = " '\\-09aAz~.,\"\t\u00e9\x7f"


def spoilt_rows(drawn, rows, count):
    """Rows spoilt in one place each, by drawn ways: a sign or a word more, less or other, blanks, rows moved."""
    told = []
    for turn in range(count):
        at = drawn.randrange(len(rows))
        row = rows[at]
        sign = drawn.choice(SIGNS)
        place = drawn.randrange(len(row) + 1)
        words = row.split(" ")
        word = drawn.randrange(len(words))
        ways = [
            [row[:place] + sign + row[place:]], [row[:place] + row[place + 1:]], [row[:place] + sign + row[place + 1:]],
            [" ".join(words[:word] + words[word + 1:])], [" ".join(words[:word + 1] + words[word:])], [" " + row],
            ["  " + row], ["    " + row], [row[1:]], [row[2:]], [row + " "], [row + "\r"], [row, ""], ["", row],
            [row, row], [], [row.replace(" ", "  ")], [row.replace(" ", "\t")], [row.upper()], [row[::-1]],
            [row.replace("1", "01")], [row.replace("0", "-0")], [row.replace("'", "")], [row.replace("\\", "")],
            [row.replace("x" * 40, "x" * 41)], [row.replace("9" * 30, "9" * 31)], [row.replace("it", "\\it")],
        ]
        told.append(rows[:at] + drawn.choice(ways) + rows[at + 1:])
    return told
