"""A loom: tasks that begin other tasks and leave calls for later, woven in any order."""

from roadsettings.errors import NoTask
from roadsettings.hall import Hall
from roadsettings.programs import names_in
from roadsettings.tasks import Task, do_step


class Loom:
    """A hall with settings, the tasks that are not over, and the calls that wait."""

    def __init__(self, settings, program):
        self.hall = Hall()
        for name, default in settings:
            self.hall.declare(name, default)
        for name in names_in(program):
            self.hall.check_setting(name)
        # Those that are over stay here, by their paths, as they may still be asked for.
        self.tasks = {}
        self.running = []
        self.calls = []
        self.start(self.new_task((), 0, program))

    def ready(self):
        """The list of the paths of all tasks that are not over, in the order in which they became tasks."""
        return [task.path for task in self.running]

    def waiting(self):
        """The list of the paths of the late calls that wait, in order."""
        return [call.path for call in self.calls]

    def turn(self, pick):
        """The picked one of the ready tasks does its next step; tells its path, None where none is ready."""
        while not self.running and self.calls:
            self.start(self.calls.pop(0))
        if not self.running:
            return None
        task = self.running[pick % len(self.running)]
        self.go_on(task)
        self.running = [other for other in self.running if not other.over()]
        return task.path

    def notes(self, path):
        """The list of the notes of that path's task."""
        return list(self.task_of(path).noted)

    def sees(self, path):
        """The list of the pairs, rising by name, that have values in the innermost world of that path's task."""
        world = self.task_of(path).innermost()
        return self.hall.roads().all_at(self.hall.place(world))

    def paths(self):
        """The rising list of all paths of tasks and calls."""
        return sorted(self.tasks)

    def task_of(self, path):
        """The task or call of that path."""
        if path not in self.tasks:
            raise NoTask(path)
        return self.tasks[path]

    def new_task(self, path, world, program):
        """Make a task, or a call, whose world is a copy of that one."""
        task = Task(path, self.hall.copy(world), program)
        self.tasks[path] = task
        return task

    def start(self, task):
        """From now on the task is ready, unless it has no steps."""
        if not task.over():
            self.running.append(task)

    def go_on(self, task):
        """Do the task's next step."""
        step = task.take_step()
        if step[0] == "begin":
            self.start(self.new_task(task.child_path(), task.innermost(), step[1]))
        elif step[0] == "late":
            self.calls.append(self.new_task(task.child_path(), task.innermost(), step[1]))
        else:
            do_step(self.hall, task, step)
        task.end_blocks()


def woven(settings, program, picks):
    """A tuple: the list of pairs of each path and its notes, and the list of the turns' paths."""
    loom = Loom(settings, program)
    told = [loom.turn(pick) for pick in picks]
    path = loom.turn(0)
    while path is not None:
        told.append(path)
        path = loom.turn(0)
    notes = [(each, loom.notes(each)) for each in loom.paths()]
    return (notes, [each for each in told if each is not None])
