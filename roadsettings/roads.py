"""Roads along which something is set or cleared step by step, each place with its table."""

from roadsettings.diffs import differing
from roadsettings.errors import NoPlace, NotBehind
from roadsettings.store import Store


class Roads:
    """Places, numbered from 0, the begin, as they are made; each other one has one ahead of it and a step."""

    def __init__(self):
        self.kept = Store()
        # What stands at a number here is that place's.
        self.aheads = [None]
        self.steps = [None]
        self.tables = [self.kept.empty()]
        self.costs = [0]

    def put(self, place, name, value):
        """Tell a new place behind that one, whose step sets the name."""
        return self.go_on(place, ("set", name, value))

    def clear(self, place, name):
        """Tell a new place behind that one, whose step clears the name."""
        return self.go_on(place, ("clear", name))

    def places(self):
        """How many places there are, the begin counted."""
        return len(self.aheads)

    def ahead(self, place):
        """The place ahead of that one, None for the begin."""
        self.check_place(place)
        return self.aheads[place]

    def step(self, place):
        """The step of the place, None for the begin."""
        self.check_place(place)
        return self.steps[place]

    def length(self, place):
        """How many steps lead to the place."""
        return len(self.road(place)) - 1

    def road(self, place):
        """The list of the places on the road to that one, from the begin on."""
        back = []
        at = place
        while at is not None:
            back.append(at)
            at = self.ahead(at)
        return back[::-1]

    def last(self, place, name):
        """The place on the road to that one whose step is the last with the name, None where there is none."""
        at = place
        while at is not None and not self.step_has(at, name):
            at = self.ahead(at)
        return at

    def walked(self, place, name):
        """The value that the name has at the place, found by walking back."""
        found = self.last(place, name)
        if found is None or self.steps[found][0] == "clear":
            return None
        return self.steps[found][2]

    def store(self):
        """The store in which these roads keep their tables."""
        return self.kept

    def table(self, place):
        """The table of all names that have a value at the place."""
        self.check_place(place)
        return self.tables[place]

    def looked(self, place, name):
        """The value that the name has at the place, by its table."""
        return self.kept.looked(self.table(place), name)

    def all_at(self, place):
        """The list of the pairs of all names that have a value at the place, rising by name."""
        return self.kept.pairs(self.table(place))

    def cost(self, place):
        """How many nodes the place's step made when it was put."""
        self.check_place(place)
        return self.costs[place]

    def meeting(self, one, other):
        """The last place that is on both roads."""
        # Two roads are one up to where they part, and have no place in common behind it.
        both = [place for place, beside in zip(self.road(one), self.road(other)) if place == beside]
        return both[-1]

    def between(self, early, late):
        """The list of the places on the road to late behind early."""
        self.check_place(early)
        road = self.road(late)
        if early not in road:
            raise NotBehind(early)
        return road[road.index(early) + 1:]

    def unlike(self, one, other):
        """The rising list of the names that have unlike values at two places."""
        names, looks = differing(self.kept, self.table(one), self.table(other))
        return names

    def check_place(self, place):
        """Refuse what is no place of these roads."""
        if not 0 <= place < len(self.aheads):
            raise NoPlace(place)

    def step_has(self, place, name):
        """Whether the place has a step with the name."""
        step = self.step(place)
        return step is not None and step[1] == name

    def go_on(self, place, step):
        """Make a place behind that one, with this step and the table that comes of it, and tell it."""
        table = self.table(place)
        made_ahead = self.kept.made()
        if step[0] == "set":
            table = self.kept.put(table, step[1], step[2])
        else:
            table = self.kept.without(table, step[1])
        self.aheads.append(place)
        self.steps.append(step)
        self.tables.append(table)
        self.costs.append(self.kept.made() - made_ahead)
        return len(self.aheads) - 1
