"""What is promised of the whole: point [1], (a) to (d), points [2] and [3], and the interface."""

import importlib
import inspect
import itertools
import random
import unittest

from helper import VALUES, HallDue, draw_deed, draw_program, outcome, plain, told_of_hall, told_of_loom, warmed
from roadsettings import errors
from roadsettings.hall import Hall
from roadsettings.lookout import Lookout
from roadsettings.loom import Loom, woven
from roadsettings.papers import copy_paper, look_paper, shows_copy, shows_look
from roadsettings.programs import is_program, names_in, steps_in, turned
from roadsettings.sheet import answers, sheet_from, turns_text
from roadsettings.texts import notes_text, program_from, program_text

NAMES = ["a", "b", "c"]
SLOTS = ["a", "s"]
SETTINGS = [("b", "b's"), ("a", None), ("c", 0)]
# How many things each is handed, its own object not counted.
FUNCTIONS = {
    "marks": {"is_name": 1, "is_value": 1, "alike": 2, "mark": 1, "digit": 2},
    "diffs": {"differing": 3, "reached": 2, "fresh": 3},
    "papers": {"look_paper": 3, "shows_look": 5, "copy_paper": 2, "shows_copy": 5, "between_paper": 4},
    "programs": {"is_program": 1, "steps_in": 1, "names_in": 1, "turned": 2},
    "loom": {"woven": 3},
    "texts": {"program_text": 1, "program_from": 1, "notes_text": 1},
    "sheet": {"sheet_from": 1, "answers": 1, "turns_text": 1},
}
CLASSES = {
    ("store", "Store", 0): {
        "empty": 0, "put": 3, "without": 2, "looked": 2, "many": 1, "pairs": 1, "way": 2, "node": 1, "made": 0,
    },
    ("roads", "Roads", 0): {
        "put": 3, "clear": 2, "places": 0, "ahead": 1, "step": 1, "length": 1, "road": 1, "last": 2, "walked": 2,
        "store": 0,
        "table": 1, "looked": 2, "all_at": 1, "cost": 1, "meeting": 2, "between": 2, "unlike": 2,
    },
    ("hall", "Hall", 0): {
        "declare": 2, "settings": 0, "roads": 0, "worlds": 0, "place": 1, "now": 0, "entered": 0, "copy": 1, "enter": 1,
        "leave": 0, "set_to": 2, "back": 1, "token": 1, "open_tokens": 1, "in_turn": 1, "look": 1, "look_or": 2,
        "look_in": 2,
        "seen": 0,
    },
    ("lookout", "Lookout", 1): {
        "watch": 1, "unwatch": 1, "watched": 0, "set_to": 2, "back": 1, "enter": 1, "leave": 0, "news": 0, "looks": 0,
    },
    ("loom", "Loom", 2): {"ready": 0, "waiting": 0, "turn": 1, "notes": 1, "sees": 1, "paths": 0},
}


def drawn_programs(count, steps, seed, words):
    drawn = random.Random(seed)
    programs = [draw_program(drawn, drawn.randint(1, steps), NAMES, SLOTS, words=words) for at in range(count)]
    return [warmed(drawn, program, SLOTS) if "copy" in words else program for program in programs]


def last_set(road, name):
    """What was last set on a road, a list of pairs, else the default; None for neither."""
    return next((value for known, value in reversed(road) if known == name), dict(SETTINGS)[name])


def solo(program, road, path, notes, slots):
    """The notes of a task that does all of its steps at once on its road, and behind it those that it began."""
    begun = []
    solo_steps(program, road, notes.setdefault(path, []), slots, [road], begun)
    for at, (inner, its_road) in enumerate(begun):
        solo(inner, its_road, path + (at,), notes, {})
    return notes


def solo_steps(program, road, noted, slots, within, begun):
    for step in program:
        if step[0] == "set":
            road.append((step[1], step[2]))
        if step[0] == "look":
            value = last_set(road, step[1])
            noted.append(("missing", step[1]) if value is None else ("look", step[1], value))
        if step[0] in ("begin", "late"):
            begun.append((step[1], list(road)))
        if step[0] == "copy":
            slots[step[1]] = list(road)
        if step[0] == "in":
            world = slots.get(step[1])
            if world is None or any(world is other for other in within):
                noted.append(("in", step[1], "none" if world is None else "busy"))
            else:
                solo_steps(step[2], world, noted, slots, within + [world], begun)


def told_by_solo(program):
    """The list of pairs of paths and notes."""
    notes = solo(program, [], (), {}, {})
    return [(path, notes[path]) for path in sorted(notes)]


class Interface(unittest.TestCase):
    def takes(self, thing, many):
        """It may be handed just so many things by their places."""
        inspect.signature(thing).bind(*range(many))
        with self.assertRaises(TypeError):
            inspect.signature(thing).bind(*range(many + 1))
        if many:
            with self.assertRaises(TypeError):
                inspect.signature(thing).bind(*range(many - 1))

    def test_functions(self):
        for module, names in FUNCTIONS.items():
            for name, many in names.items():
                with self.subTest(module=module, name=name):
                    self.takes(getattr(importlib.import_module(f"roadsettings.{module}"), name), many)

    def test_classes(self):
        for (module, name, many), methods in CLASSES.items():
            made = getattr(importlib.import_module(f"roadsettings.{module}"), name)
            self.assertTrue(inspect.isclass(made))
            self.takes(made, many)
            for method, handed in methods.items():
                with self.subTest(name=name, method=method):
                    self.takes(getattr(made, method), handed + 1)

    def test_refusals_are_there_with_what_is_refused(self):
        for name in ("NoTable", "NoTask", "BadRow", "Known", "OutOfTurn"):
            self.assertEqual(getattr(errors, name)((1, 2)).what, (1, 2))


class Roads(unittest.TestCase):
    WORDS = ("set",) * 4 + ("look",) * 4 + ("begin", "late") * 2 + ("copy", "in", "in", "pass")

    def test_each_look_tells_what_was_last_set_on_its_own_road_however_woven(self):
        drawn = random.Random(1)
        looks = 0
        for program in drawn_programs(60, 90, 31, self.WORDS):
            due = told_by_solo(program)
            looks += sum(len(notes) for path, notes in due)
            for count in range(4):
                picks = [drawn.randrange(10000) for at in range(drawn.choice([0, 5, 60, 300]))]
                self.assertEqual(plain(woven(SETTINGS, program, picks)[0]), plain(due))
        self.assertGreater(looks, 500)

    def test_all_ways_to_weave_a_small_program(self):
        program = (
            ("set", "a", 1, "s"), ("begin", (("look", "a"), ("set", "a", 2, "s"), ("look", "a"))), ("look", "a"),
            ("late", (("look", "a"), ("begin", (("look", "a"),)))), ("begin", (("set", "a", "3", "s"), ("look", "a"))),
            ("back", "s"), ("look", "a"),
        )
        due = [
            ((), [("look", "a", 1), ("back", "s", "done"), ("missing", "a")]),
            ((0,), [("look", "a", 1), ("look", "a", 2)]),
            ((1,), [("look", "a", 1)]), ((1, 0), [("look", "a", 1)]), ((2,), [("look", "a", "3")]),
        ]
        orders = {}
        for picks in itertools.product((0, 1, 2), repeat=8):
            notes, turns = woven(SETTINGS, program, picks)
            self.assertEqual(plain(notes), plain(due))
            orders[tuple(turns)] = True
        self.assertGreater(len(orders), 50)

    def test_begins_turned_to_lates_and_lates_to_begins_note_the_same(self):
        words = self.WORDS + ("back",) * 4
        for program in drawn_programs(60, 90, 32, words):
            notes = plain(woven(SETTINGS, program, [])[0])
            for word in ("late", "begin"):
                self.assertEqual(plain(woven(SETTINGS, turned(program, word), [3, 1, 4] * 30)[0]), notes)

    def test_from_a_program_to_its_text_and_to_the_answers(self):
        for program in drawn_programs(40, 90, 33, self.WORDS + ("back",) * 4):
            self.assertIs(is_program(program), True)
            rows = [f"setting {name}" for name in names_in(program)]
            text = "\n".join(rows + ["weave 5 1"] + ([program_text(program)] if program else []))
            settings, picks, again = sheet_from(text)
            self.assertEqual(plain((again, program_from(program_text(program)))), plain((program, program)))
            notes, turns = woven(settings, program, picks)
            self.assertEqual(len(turns_text(text).split(" ")), len(turns))
            self.assertEqual(answers(text).count("task"), len(notes))
            for path, noted in notes:
                self.assertIn(notes_text(noted).replace("\n", "\n  "), answers(text))


class Halls(unittest.TestCase):
    def drawn_hall(self, seed, deeds):
        drawn = random.Random(seed)
        hall, due = Hall(), HallDue()
        for setting in SETTINGS:
            hall.declare(*setting)
            due.do("declare", *setting)
        for count in range(deeds):
            deed, *things = draw_deed(drawn, due, NAMES)
            self.assertEqual(outcome(getattr(hall, deed), *things), due.outcome(deed, *things))
        return hall, due

    def test_tables_tell_what_walking_back_tells_and_steps_make_just_the_told_nodes(self):
        hall, due = self.drawn_hall(41, 200)
        roads = hall.roads()
        for place in range(1, roads.places()):
            step, ahead = roads.step(place), roads.ahead(place)
            paper = copy_paper(roads, place)
            self.assertEqual(len(paper), roads.cost(place))
            self.assertIs(shows_copy(roads.store(), roads.table(ahead), roads.table(place), step[1], paper), True)
        for world in range(hall.worlds()):
            place = hall.place(world)
            for name in NAMES:
                value = due.values[world].get(name)
                self.assertEqual(plain((roads.looked(place, name), roads.walked(place, name))), plain((value, value)))
                self.assertIs(shows_look(roads, place, name, value, look_paper(roads, place, name)), True)

    def test_refused_deeds_anywhere_change_nothing(self):
        hall, due = self.drawn_hall(42, 120)
        lookout = Lookout(hall)
        lookout.watch("a")
        before, made = told_of_hall(hall, len(due.tokens), NAMES), hall.roads().store().made()
        wrong = [hall.worlds(), -1]
        deeds = [(hall.declare, "a", 1), (hall.enter, hall.now()), (hall.set_to, "x", 1), (lookout.set_to, "x", 1)]
        deeds += [(lookout.watch, "x"), (lookout.unwatch, 1), (lookout.back, -1), (lookout.enter, hall.now())]
        of_worlds = (hall.copy, hall.enter, hall.place, hall.open_tokens, lookout.enter)
        deeds += [(deed, world) for deed in of_worlds for world in wrong]
        for token in range(-1, len(due.tokens) + 1):
            if due.back_refused(token) is not None:
                deeds += [(hall.back, token), (lookout.back, token)]
        deeds += [
            (hall.roads().put, 10**6, "a", 1), (hall.roads().store().put, -1, "a", 1), (hall.roads().store().node, -1),
        ]
        for deed, *things in deeds:
            self.assertEqual(outcome(deed, *things)[0], "refused", (deed, things))
        self.assertEqual(told_of_hall(hall, len(due.tokens), NAMES), before)
        self.assertEqual(
            (hall.roads().store().made(), lookout.news(), lookout.looks(), lookout.watched()),
            (made, [], 0, [(0, "a")]),
        )

    def test_a_world_never_hears_of_what_is_set_in_others(self):
        hall, due = self.drawn_hall(43, 60)
        drawn = random.Random(44)
        kept = hall.copy(hall.now())
        before = [outcome(hall.look_in, kept, name) for name in NAMES]
        copies = [hall.copy(kept) for count in range(5)]
        for world in copies:
            hall.enter(world)
            tokens = [hall.set_to(drawn.choice(NAMES), drawn.choice(VALUES)) for count in range(10)]
            for token in drawn.sample(tokens, 10):
                outcome(hall.back, token)
            hall.leave()
            self.assertEqual([outcome(hall.look_in, kept, name) for name in NAMES], before)


class ToldAgain(unittest.TestCase):
    def test_all_is_told_again_behind_other_asks(self):
        words = ("set", "look", "back", "begin", "late", "copy", "in", "pass")
        drawn = random.Random(51)
        program = drawn_programs(1, 80, 52, words)[0]
        text = program_text(program)
        sheet = "setting a\nsetting b 'x'\nsetting c\nweave 4 2\n" + text
        picks = [7, 5, 3]
        asks = [
            lambda: is_program(program), lambda: steps_in(program), lambda: names_in(program),
            lambda: turned(program, "late"),
            lambda: program_text(program), lambda: program_from(text), lambda: woven(SETTINGS, program, picks),
            lambda: sheet_from(sheet), lambda: answers(sheet), lambda: turns_text(sheet),
            lambda: notes_text([("look", "a", 1)]),
            lambda: outcome(program_from, "look"), lambda: outcome(sheet_from, ""),
            lambda: outcome(Loom, [], (("look", "a"),)),
        ]
        due = [plain(ask()) for ask in asks]
        for count in range(60):
            at = drawn.randrange(len(asks))
            told = asks[at]()
            self.assertEqual(plain(told), due[at])
            for part in told if isinstance(told, tuple) else [told]:
                if isinstance(part, list):
                    part.clear()
        self.assertEqual((SETTINGS, picks), ([("b", "b's"), ("a", None), ("c", 0)], [7, 5, 3]))

    def test_asking_a_loom_changes_nothing(self):
        program = drawn_programs(1, 60, 53, ("set", "look", "begin", "late", "copy", "in"))[0]
        loom, calm = Loom(SETTINGS, program), Loom(SETTINGS, program)
        for pick in range(60):
            told = told_of_loom(loom)
            self.assertEqual(outcome(loom.notes, (99,))[0], "refused")
            self.assertEqual(outcome(loom.sees, (0, 99))[0], "refused")
            self.assertEqual(told_of_loom(loom), told)
            self.assertEqual(loom.turn(pick), calm.turn(pick))
        self.assertEqual(told_of_loom(loom), told_of_loom(calm))


if __name__ == "__main__":
    unittest.main()
