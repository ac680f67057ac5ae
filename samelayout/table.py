"""A table: names with values, in a layout that depends only on the names."""

from samelayout.errors import Absent, BadCount, BadName, BadRule, BadValue, BadWay, Full, TooFull
from samelayout.kinds import is_integer_within
from samelayout.probes import is_power_of_two, linear, triangular
from samelayout.removing import NO_SLOT

LETTERS = "abcdefghijklmnopqrstuvwxyz"
MOST_LETTERS = 8
MOST_SLOTS = 64
NO_NAME = ""


def is_word(value, least):
    """Whether any value is a string of letters from a to z, at least so many and at most eight."""
    if not isinstance(value, str) or not least <= len(value) <= MOST_LETTERS:
        return False
    return all([letter in LETTERS for letter in value])


def require_name(value):
    """Raise BadName unless a value is a name."""
    if not is_word(value, 1):
        raise BadName(value)


def require_count(value, way):
    """Raise BadCount unless a value is a number of slots that a table of this way may have."""
    if not is_integer_within(value, 1, MOST_SLOTS) or (way == "triangular" and not is_power_of_two(value)):
        raise BadCount(value)


def home_of(name, count):
    """The number of a name modulo the number of slots."""
    number = 0
    for letter in name:
        number = number * 31 + LETTERS.index(letter) + 1
    return number % count


class Table:
    """Names with values; its layout is always the best one of its names."""

    def __init__(self, count, *, way="linear", rule="names"):
        if way not in ("linear", "triangular"):
            raise BadWay(way)
        if rule not in ("names", "farther"):
            raise BadRule(rule)
        require_count(count, way)
        self.count = count
        self.way = way
        self.rule = rule
        self.contents = {}
        self.entries = [NO_NAME] * count

    def put(self, name, value):
        """Add a name, or change its value."""
        require_name(name)
        if not is_word(value, 0):
            raise BadValue(value)
        if name not in self.contents:
            if len(self.contents) == self.count:
                raise Full()
            self.settle(name)
        self.contents[name] = value

    def value_of(self, name):
        """The value of a name."""
        require_name(name)
        if name not in self.contents:
            raise Absent(name)
        return self.contents[name]

    def take_out(self, name):
        """Remove a name; its value."""
        value = self.value_of(name)
        self.contents.pop(name)
        self.settle_all()
        return value

    def look_up(self, name):
        """The slot of a name, or -1, and how many slots were read until that was known."""
        require_name(name)
        for reads, slot in enumerate(self.order_of(name), start=1):
            if self.entries[slot] == name:
                return (slot, reads)
            # An insert would let the name stay here, so that it cannot be behind this slot.
            if self.entries[slot] == NO_NAME or self.beats(name, self.entries[slot], slot):
                return (NO_SLOT, reads)
        return (NO_SLOT, self.count)

    def names(self):
        """The names, ascending."""
        return tuple(sorted(self.contents))

    def layout(self):
        """For each slot its name, or the empty string."""
        return tuple(self.entries)

    def __len__(self):
        return len(self.contents)

    def slots(self):
        """The number of slots."""
        return self.count

    def distances(self):
        """The names, ascending, each with the index of its slot in its probe order."""
        return tuple([(name, self.distance(name, self.entries.index(name))) for name in self.names()])

    def grow(self, count):
        """Give the table another number of slots."""
        require_count(count, self.way)
        if len(self.contents) > count:
            raise TooFull(len(self.contents))
        self.count = count
        self.settle_all()

    def add_all(self, other):
        """Put all names of another table, with their values there."""
        together = len(set(self.names() + other.names()))
        if together > self.count:
            raise TooFull(together)
        for name in other.names():
            self.put(name, other.value_of(name))

    def clone(self):
        """An independent table with the same content."""
        twin = Table(self.count, way=self.way, rule=self.rule)
        twin.add_all(self)
        return twin

    def __eq__(self, other):
        return (isinstance(other, Table) and self.count == other.count and self.way == other.way
                and self.rule == other.rule and self.contents == other.contents)

    def order_of(self, name):
        """The probe order of a name."""
        home = home_of(name, self.count)
        if self.way == "triangular":
            return triangular(self.count, home)
        return linear(self.count, home)

    def distance(self, name, slot):
        """How far a name has come when it asks a slot."""
        return self.order_of(name).index(slot)

    def beats(self, one, other, slot):
        """Whether the first one of two names stays at a slot."""
        if self.rule == "farther":
            farther = self.distance(one, slot) - self.distance(other, slot)
            if farther != 0:
                return farther > 0
        return one < other

    def settle(self, name):
        """Insert a name that is not there; a slot must be empty."""
        asking = name
        slot = self.order_of(asking)[0]
        while self.entries[slot] != NO_NAME:
            if self.beats(asking, self.entries[slot], slot):
                asking, self.entries[slot] = self.entries[slot], asking
            # A name never comes to the end of its probe order: the slots that it has asked are taken, and one is empty.
            slot = self.order_of(asking)[self.distance(asking, slot) + 1]
        self.entries[slot] = asking

    def settle_all(self):
        """Insert all names into empty slots: whatever their order is, they come to their best layout."""
        self.entries = [NO_NAME] * self.count
        for name in self.names():
            self.settle(name)
