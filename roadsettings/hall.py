"""A hall: settings, worlds that are copied and entered, and tokens that put back what they found."""

from roadsettings.errors import AtHome, Busy, Known, Missing, NoSetting, NoWorld
from roadsettings.roads import Roads
from roadsettings.tokens import Tokens


class Hall:
    """Settings, worlds at places of the hall's own roads, tokens, and the row of the entered worlds."""

    def __init__(self):
        self.defaults = {}
        self.ways = Roads()
        # What stands at a number here is the place of that world.
        self.spots = [0]
        self.inside = [0]
        self.held = Tokens()

    def declare(self, name, default):
        """From now on the name is a setting, with that default, or with none for None."""
        if name in self.defaults:
            raise Known(name)
        self.defaults[name] = default

    def settings(self):
        """The list of pairs of a name and its default, as declared."""
        return list(self.defaults.items())

    def roads(self):
        """The roads on which the worlds go on."""
        return self.ways

    def worlds(self):
        """How many worlds there are."""
        return len(self.spots)

    def place(self, world):
        """The place of the roads at which the world is."""
        self.check_world(world)
        return self.spots[world]

    def now(self):
        """The world that was entered last."""
        return self.inside[-1]

    def entered(self):
        """The list of the entered worlds, from the first one on."""
        return list(self.inside)

    def copy(self, world):
        """Tell a new world, at the same place as that one."""
        self.spots.append(self.place(world))
        return len(self.spots) - 1

    def enter(self, world):
        """The world is the one now."""
        self.check_world(world)
        if world in self.inside:
            raise Busy(world)
        self.inside.append(world)

    def leave(self):
        """The last world entered is so no more."""
        if len(self.inside) == 1:
            raise AtHome(self.now())
        self.inside.pop()

    def set_to(self, name, value):
        """Set the name in the world now, and tell the token that can put back what it found."""
        self.check_setting(name)
        world = self.now()
        token = self.held.make(world, name, self.value_in(world, name))
        self.spots[world] = self.ways.put(self.place(world), name, value)
        return token

    def back(self, token):
        """Put back in the world now what the token found; it is used then."""
        self.held.check_back(token, self.now())
        world, name, old, unused = self.held.described(token)
        if old is None:
            self.spots[world] = self.ways.clear(self.place(world), name)
        else:
            self.spots[world] = self.ways.put(self.place(world), name, old)
        self.held.use(token)

    def token(self, number):
        """The tuple of the token's world, name, old value, and whether it is open."""
        return self.held.described(number)

    def open_tokens(self, world):
        """The rising list of the world's open tokens."""
        self.check_world(world)
        return self.held.open_in(world)

    def in_turn(self, token):
        """The last open token of the same world and name as that one, None where none is open."""
        return self.held.last_open(token)

    def look(self, name):
        """The name's value in the world now, else its default."""
        return self.look_in(self.now(), name)

    def look_or(self, name, other):
        """The name's value in the world now, else the other one, whatever the default."""
        self.check_setting(name)
        value = self.value_in(self.now(), name)
        return other if value is None else value

    def look_in(self, world, name):
        """The name's value in that world, else its default."""
        self.check_world(world)
        self.check_setting(name)
        value = self.value_or_default(world, name)
        if value is None:
            raise Missing(name)
        return value

    def seen(self):
        """The list of pairs of those settings, as declared, that have a value in the world now or a default."""
        pairs = [(name, self.value_or_default(self.now(), name)) for name in self.defaults]
        return [pair for pair in pairs if pair[1] is not None]

    def check_world(self, world):
        """Refuse what is no world of this hall."""
        if not 0 <= world < len(self.spots):
            raise NoWorld(world)

    def check_setting(self, name):
        """Refuse a name that isn't declared."""
        if name not in self.defaults:
            raise NoSetting(name)

    def value_in(self, world, name):
        """The name's value in the world, None where there is none; defaults don't count."""
        return self.ways.looked(self.place(world), name)

    def value_or_default(self, world, name):
        """The name's value in the world, else its default, None where there is neither."""
        value = self.value_in(world, name)
        return self.defaults[name] if value is None else value
