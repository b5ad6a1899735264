"""Tokens, each with the world and the name that something was set in, and the value that it found there."""

from roadsettings.errors import Elsewhere, NoToken, OutOfTurn, Used


class Tokens:
    """Tokens, numbered from 0 as they are made; each is open until it is used."""

    def __init__(self):
        # What stands at a number here is that token's.
        self.finds = []
        self.unused = []

    def make(self, world, name, old):
        """Tell a new token, which is open."""
        self.finds.append((world, name, old))
        self.unused.append(True)
        return len(self.finds) - 1

    def described(self, token):
        """The token's world, name, old value, and whether it is open."""
        self.check_token(token)
        world, name, old = self.finds[token]
        return (world, name, old, self.unused[token])

    def use(self, token):
        """The token is used from now on."""
        self.unused[token] = False

    def open_in(self, world):
        """The rising list of the world's open tokens."""
        return [token for token, find in enumerate(self.finds) if self.unused[token] and find[0] == world]

    def last_open(self, token):
        """The last open token of the same world and name as that one, None where none is open."""
        world, name, old, unused = self.described(token)
        found = [other for other in self.open_in(world) if self.finds[other][1] == name]
        return found[-1] if found else None

    def check_token(self, token):
        """Refuse what is no token."""
        if not 0 <= token < len(self.finds):
            raise NoToken(token)

    def check_back(self, token, now):
        """Refuse a token that can't put back what it found while that world is the one now."""
        world, name, old, unused = self.described(token)
        if not unused:
            raise Used(token)
        if world != now:
            raise Elsewhere(token)
        if self.last_open(token) != token:
            raise OutOfTurn(token)
