"""A lookout: watchers of a hall's settings, and the news of what changes for them."""

from roadsettings.diffs import differing
from roadsettings.errors import NoWatcher


class Lookout:
    """Watchers of a hall, numbered from 0 as they are made, and news of the deeds that are done by this lookout."""

    def __init__(self, hall):
        self.hall = hall
        # What stands at a number here is the name that this watcher watches, None where it is gone.
        self.names = []
        self.unheard = []
        self.looks_done = 0

    def watch(self, name):
        """Tell a new watcher of the name."""
        self.hall.check_setting(name)
        self.names.append(name)
        return len(self.names) - 1

    def unwatch(self, watcher):
        """The watcher is gone."""
        if not 0 <= watcher < len(self.names) or self.names[watcher] is None:
            raise NoWatcher(watcher)
        self.names[watcher] = None

    def watched(self):
        """The list of pairs of each watcher that is there, rising, and its name."""
        return [(watcher, name) for watcher, name in enumerate(self.names) if name is not None]

    def set_to(self, name, value):
        """As the hall's, with news of what changes by it."""
        ahead = self.place_now()
        token = self.hall.set_to(name, value)
        self.spread(ahead)
        return token

    def back(self, token):
        """As the hall's, with news of what changes by it."""
        ahead = self.place_now()
        self.hall.back(token)
        self.spread(ahead)

    def enter(self, world):
        """As the hall's, with news of what is unlike in the world now; the looks are counted."""
        ahead = self.place_now()
        self.hall.enter(world)
        self.looks_done += self.spread(ahead)

    def leave(self):
        """As the hall's, with news of what is unlike in the world now; the looks are counted."""
        ahead = self.place_now()
        self.hall.leave()
        self.looks_done += self.spread(ahead)

    def news(self):
        """The list of all news since news was asked last; they are told once."""
        told = self.unheard
        self.unheard = []
        return told

    def looks(self):
        """How many pairs of nodes the enters and leaves of this lookout have looked at."""
        return self.looks_done

    def place_now(self):
        """The place of the hall's world now."""
        return self.hall.place(self.hall.now())

    def spread(self, ahead):
        """Keep the news of what is unlike now and at the place ahead; tells how many pairs are looked at."""
        roads = self.hall.roads()
        behind = self.place_now()
        names, looks = differing(roads.store(), roads.table(ahead), roads.table(behind))
        for name in names:
            change = (self.hall.now(), name, roads.looked(ahead, name), roads.looked(behind, name))
            self.unheard.extend([(watcher,) + change for watcher in self.watchers_of(name)])
        return looks

    def watchers_of(self, name):
        """The rising list of the watchers of the name that are there."""
        return [watcher for watcher, watched_name in self.watched() if watched_name == name]
