"""A session: a setting and a layout that lines of words ask and change."""

from samelayout.errors import BadLine
from samelayout.inserting import EMPTY, insert, layout_of
from samelayout.judging import judge, unlike
from samelayout.reading import number_of, read_setting
from samelayout.removing import look_up, remove
from samelayout.showing import show_entry, show_history, show_layout
from samelayout.stable import stable_layouts


def keys_in(session):
    """The keys in the layout of a session, ascending."""
    return tuple(sorted([key for key in session.reached if key != EMPTY]))


def tell_insert(session, key):
    """Insert a key; the stays."""
    session.reached, path = insert(session.probes, session.rule, session.reached, key)
    return " ".join([f"{staying}:{slot}" for staying, slot in path])


def tell_remove(session, key):
    """Remove a key."""
    session.reached = remove(session.probes, session.rule, session.reached, key)
    return "ok"


def tell_find(session, key):
    """The slot of a key, and how many were read."""
    slot, reads = look_up(session.probes, session.rule, session.reached, key)
    return f"{show_entry(slot)} reads {reads}"


def tell_show(session):
    """The layout."""
    return show_layout(session.reached)


def tell_keys(session):
    """The keys in the layout."""
    return show_history(keys_in(session))


def tell_judge(session):
    """Whether the rule is ordered, or where it has a ring of keys."""
    judgement = judge(session.rule)
    if judgement[0] == "orders":
        return "orders"
    a, b, c = judgement[2]
    return f"ring {judgement[1]} {a} {b} {c}"


def tell_unlike(session):
    """Two histories of the same keys that lead to unlike layouts, if there are such."""
    found = unlike(session.probes, session.rule)
    if found is None:
        return "one"
    return f"{show_history(found[0])} / {show_history(found[1])}"


def tell_stable(session):
    """The number of stable layouts of the keys in the layout."""
    return str(len(stable_layouts(session.probes, session.rule, keys_in(session))))


WITH_KEY = {"insert": tell_insert, "remove": tell_remove, "find": tell_find}
ALONE = {"show": tell_show, "keys": tell_keys, "judge": tell_judge, "unlike": tell_unlike, "stable": tell_stable}


class Session:
    """A setting, and a layout that is empty at first."""

    def __init__(self, source):
        self.probes, self.rule = read_setting(source)
        self.reached = layout_of(self.probes, self.rule, ())

    def say(self, line):
        """What a line asks for."""
        words = line.split(" ") if isinstance(line, str) else []
        if len(words) == 1 and words[0] in ALONE:
            tell = ALONE[words[0]]
            return tell(self)
        if len(words) == 2 and words[0] in WITH_KEY:
            key = number_of(words[1], 0, len(self.probes) - 1)
            if key is not None:
                tell_key = WITH_KEY[words[0]]
                return tell_key(self, key)
        raise BadLine(line)
