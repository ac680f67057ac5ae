"""Reading: settings, layouts and histories as they are written."""

from samelayout.errors import BadText
from samelayout.inserting import EMPTY
from samelayout.probes import is_probe_order
from samelayout.rules import MOST, is_table
from samelayout.showing import NOTHING


def read_setting(source):
    """The probes and the rule that any value writes."""
    require_string(source)
    lines = source.split("\n")
    keys, slots = sizes_in(lines[0])
    probes = tuple([probe_order_at(lines, at, slots) for at in range(1, 1 + keys)])
    rule = tuple([table_at(lines, at, keys) for at in range(1 + keys, 1 + keys + slots)])
    if len(lines) > 1 + keys + slots:
        raise BadText(1 + keys + slots)
    return (probes, rule)


def require_string(source):
    """Raise BadText unless a value is a string."""
    if not isinstance(source, str):
        raise BadText(0)


def sizes_in(line):
    """The numbers of keys and slots that the first line tells."""
    words = line.split(" ")
    if len(words) != 4 or words[0] != "keys" or words[2] != "slots":
        raise BadText(0)
    keys = number_of(words[1], 1, MOST)
    slots = number_of(words[3], 1, MOST)
    if keys is None or slots is None:
        raise BadText(0)
    return (keys, slots)


def number_of(word, low, high):
    """The number from low to high that a word writes, or None."""
    for number in range(low, high + 1):
        if word == str(number):
            return number
    return None


def probe_order_at(lines, at, slots):
    """The probe order that a line writes."""
    order = tuple([number_of(word, 0, slots - 1) for word in words_behind(lines, at, "probe")])
    if not is_probe_order(slots, order):
        raise BadText(at)
    return order


def table_at(lines, at, keys):
    """The table that a line writes."""
    table = tuple([beaten_in(word, keys) for word in words_behind(lines, at, "beats")])
    if not is_table(keys, table):
        raise BadText(at)
    return table


def words_behind(lines, at, first):
    """The words behind the first one of a line; the line must be there, and that be its first word."""
    if at == len(lines):
        raise BadText(at)
    words = lines[at].split(" ")
    if words[0] != first:
        raise BadText(at)
    return words[1:]


def beaten_in(word, keys):
    """The keys that a word writes, with None for what is none."""
    if word == NOTHING:
        return ()
    return tuple([number_of(part, 0, keys - 1) for part in word.split(",")])


def read_layout(source):
    """The layout that any value writes."""
    require_string(source)
    words = source.split(" ")
    layout = tuple([EMPTY if word == NOTHING else number_of(word, 0, MOST - 1) for word in words])
    if len(layout) > MOST or not are_different([key for key in layout if key != EMPTY]):
        raise BadText(0)
    return layout


def read_history(source):
    """The history that any value writes."""
    require_string(source)
    if source == NOTHING:
        return ()
    history = tuple([number_of(word, 0, MOST - 1) for word in source.split(" ")])
    if not are_different(history):
        raise BadText(0)
    return history


def are_different(keys):
    """Whether what was read is keys throughout, none of them twice."""
    return None not in keys and len(set(keys)) == len(keys)
