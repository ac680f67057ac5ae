"""The errors of the package: each stands directly under LayoutError and holds the value given with it."""


class LayoutError(ValueError):
    """What all errors of the package are."""


class BadStep(LayoutError):
    """A step that does not meet all slots."""

    def __init__(self, value):
        self.value = value


class BadCount(LayoutError):
    """A number of slots that there may not be."""

    def __init__(self, value):
        self.value = value


class Present(LayoutError):
    """A key that is in the layout already."""

    def __init__(self, key):
        self.key = key


class Full(LayoutError):
    """No slot is empty."""


class TooMany(LayoutError):
    """More keys than the search is meant for."""

    def __init__(self, count):
        self.count = count


class NotOrdered(LayoutError):
    """A slot at which the rule has a ring of keys."""

    def __init__(self, slot):
        self.slot = slot


class NoRing(LayoutError):
    """A value that is not a ring of the layout."""

    def __init__(self, value):
        self.value = value


class Absent(LayoutError):
    """A key that is not in the layout."""

    def __init__(self, key):
        self.key = key


class TooFull(LayoutError):
    """More keys than there are slots."""

    def __init__(self, count):
        self.count = count


class BadWay(LayoutError):
    """A value that is not a way of probing."""

    def __init__(self, value):
        self.value = value


class BadRule(LayoutError):
    """A value that is not the word for a rule."""

    def __init__(self, value):
        self.value = value


class BadName(LayoutError):
    """A value that is not a name."""

    def __init__(self, value):
        self.value = value


class BadValue(LayoutError):
    """A value that a name may not have."""

    def __init__(self, value):
        self.value = value


class BadText(LayoutError):
    """The index of the first line that is not written as it must be."""

    def __init__(self, line):
        self.line = line


class BadLine(LayoutError):
    """A line that says nothing that a session knows."""

    def __init__(self, line):
        self.line = line
