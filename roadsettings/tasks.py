"""Tasks of a loom: what each has done, kept and noted, and how its steps are done in a hall."""

from roadsettings.errors import Elsewhere, Missing, OutOfTurn, Used


class Block:
    """A program that is done in a world, and how many of its steps are done."""

    def __init__(self, program, world):
        self.program = program
        self.world = world
        self.done = 0

    def at_end(self):
        """Whether all of its steps are done."""
        return self.done == len(self.program)


class Task:
    """A task, or a call that waits to become one, with a path and a world of its own."""

    def __init__(self, path, world, program):
        self.path = path
        self.own = world
        # The blocks that the task is within, the innermost last; it is over when there are none.
        self.blocks = [Block(program, world)]
        self.tokens = {}
        self.copies = {}
        self.noted = []
        self.children = 0
        self.end_blocks()

    def over(self):
        """Whether no step is left."""
        return not self.blocks

    def innermost(self):
        """The world in which the next step is done; the task's own one where it is over."""
        return self.own if self.over() else self.blocks[-1].world

    def is_within(self, world):
        """Whether the task is within that world."""
        return world in [block.world for block in self.blocks]

    def child_path(self):
        """Tell the path of the next task or call that this one begins or leaves."""
        self.children += 1
        return self.path + (self.children - 1,)

    def take_step(self):
        """Tell the next step, which counts as done from now on."""
        block = self.blocks[-1]
        block.done += 1
        return block.program[block.done - 1]

    def end_blocks(self):
        """Go out of each block that is over."""
        # Only the innermost can go: one whose last step is an `in` lasts as long as what is within.
        while self.blocks and self.blocks[-1].at_end():
            self.blocks.pop()


def do_set(hall, task, step):
    """Set the name; the slot has the token then."""
    word, name, value, slot = step
    task.tokens[slot] = hall.set_to(name, value)


def do_look(hall, task, step):
    """Note the name's value, or that it is missing."""
    word, name = step
    try:
        task.noted.append(("look", name, hall.look(name)))
    except Missing:
        task.noted.append(("missing", name))


def do_back(hall, task, step):
    """Put back by the slot's token, and note what came of it."""
    word, slot = step
    outcome = back_word(hall, task.tokens[slot]) if slot in task.tokens else "none"
    task.noted.append(("back", slot, outcome))


def back_word(hall, token):
    """Put back by the token; tells the word for what came of it."""
    try:
        hall.back(token)
    except Used:
        return "used"
    except Elsewhere:
        return "elsewhere"
    except OutOfTurn:
        return "turn"
    return "done"


def do_copy(hall, task, step):
    """The world slot has a copy of the innermost world."""
    word, slot = step
    task.copies[slot] = hall.copy(task.innermost())


def do_in(hall, task, step):
    """Go into the slot's world for the program within, or note why not."""
    word, slot, program = step
    if slot not in task.copies:
        task.noted.append(("in", slot, "none"))
    elif task.is_within(task.copies[slot]):
        task.noted.append(("in", slot, "busy"))
    else:
        task.blocks.append(Block(program, task.copies[slot]))


def do_pass(hall, task, step):
    """Do nothing."""


DEEDS = {"set": do_set, "look": do_look, "back": do_back, "copy": do_copy, "in": do_in, "pass": do_pass}


def do_step(hall, task, step):
    """Do a step that begins no other task, in the task's innermost world."""
    deed = DEEDS[step[0]]
    hall.enter(task.innermost())
    deed(hall, task, step)
    hall.leave()
