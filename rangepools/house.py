"""A house: pools and the goods of people, in steps that can be taken back, told in texts and made again."""

from rangepools.books import (Books, in_order, keeper_of, make_step, owner_of, present_in, purse_of, read_step,
                              step_line, web_of)
from rangepools.errors import BadLine, NothingToRedo, NothingToUndo, PoolError


class House:
    """Pools, positions and purses, and the steps that led to them."""

    def __init__(self):
        # Each step is a tuple of its line and of the books behind it. Books never change once they stand here, so
        # whoever has these two tuples has all of a house.
        self._done = ()
        self._undone = ()

    def __len__(self):
        return len(self._done)

    def _books(self):
        """The books as they stand."""
        return self._done[-1][1] if self._done else Books()

    def _step(self, word, *values):
        """Make a step; what the method with this word returns."""
        books = self._books().twin()
        given = make_step(books, word, values)
        self._done = (*self._done, (step_line(word, values), books))
        self._undone = ()
        return given

    def add(self, pool, good, other, root, fee):
        """Add a pool without positions."""
        self._step("add", pool, good, other, root, fee)

    def pay(self, person, good, amount):
        """Give an amount of a good to a person, from outside of the house."""
        self._step("pay", person, good, amount)

    def purse(self, person):
        """The dict of what a person has, by goods in ascending order."""
        return purse_of(self._books(), person)

    def lend(self, person, pool, name, low, high, size):
        """Open a position; the tuple (a, b) of what is brought in."""
        return self._step("lend", person, pool, name, low, high, size)

    def grow(self, person, pool, name, size):
        """Make the size of a position greater; the tuple (a, b) of what is brought in."""
        return self._step("grow", person, pool, name, size)

    def lessen(self, person, pool, name, size):
        """Make the size of a position less; the tuple (a, b) of what is given out."""
        return self._step("lessen", person, pool, name, size)

    def collect(self, person, pool, name):
        """Give out the fees of a position; the tuple (a, b) of them."""
        return self._step("collect", person, pool, name)

    def close(self, person, pool, name):
        """Forget a position; the tuple (a, b) of all that is given out."""
        return self._step("close", person, pool, name)

    def owner(self, pool, name):
        """The person who opened a position."""
        return owner_of(self._books(), pool, name)

    def trade(self, person, pool, good, amount):
        """Put an amount of a good into a pool; the tuple (other, taken, left)."""
        return self._step("trade", person, pool, good, amount)

    def send(self, person, start, route, amount):
        """Do the trades of a route; what is taken in the last one."""
        return self._step("send", person, start, route, amount)

    def web(self):
        """The web of the pools as they stand."""
        return web_of(self._books())

    def fees(self, pool, name):
        """The tuple (a, b) of the fees of a position."""
        return keeper_of(self._books(), pool).fees(name)

    def paid(self):
        """The dict of what has been paid in in sum, by goods in ascending order."""
        return in_order(self._books().paid_in)

    def present(self):
        """The dict of what is in all purses and all pools in sum, by goods in ascending order."""
        return present_in(self._books())

    def undo(self):
        """Take back the last step."""
        if not self._done:
            raise NothingToUndo()
        self._undone = (*self._undone, self._done[-1])
        self._done = self._done[:-1]

    def redo(self):
        """Make the step again that was taken back last."""
        if not self._undone:
            raise NothingToRedo()
        self._done = (*self._done, self._undone[-1])
        self._undone = self._undone[:-1]

    def trial(self):
        """An object for with: when its block ends, the house is as it was when the block began."""
        return Trial(self)

    def supposed(self, text, person):
        """The purse that a person would have after the steps of a text."""
        other = House()
        other._done = self._done
        follow(other, text)
        return other.purse(person)

    def text(self):
        """The lines of all steps."""
        return "\n".join([line for line, _ in self._done])


class Trial:
    """What a house was when a block began, and is again when it ends."""

    def __init__(self, house):
        self._house = house
        self._done = ()
        self._undone = ()

    def __enter__(self):
        self._done = self._house._done
        self._undone = self._house._undone
        return self._house

    def __exit__(self, kind, value, trace):
        house = self._house
        house._done = self._done
        house._undone = self._undone


def read_house(text):
    """The house with a text."""
    house = House()
    follow(house, text)
    return house


def follow(house, text):
    """Make the steps of a text in a house."""
    lines = text.split("\n") if text != "" else []
    for number, line in enumerate(lines, start=1):
        try:
            word, values = read_step(line)
            house._step(word, *values)
        except PoolError:
            raise BadLine(number) from None
