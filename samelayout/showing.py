"""Showing: how settings, layouts and histories are written."""

from samelayout.inserting import EMPTY

NOTHING = "-"


def show_setting(probes, rule):
    """The lines of probes and a rule."""
    lines = [f"keys {len(probes)} slots {len(rule)}"]
    lines += [" ".join(["probe"] + [str(slot) for slot in order]) for order in probes]
    lines += [" ".join(["beats"] + [show_keys(beaten, ",") for beaten in table]) for table in rule]
    return "\n".join(lines)


def show_layout(layout):
    """The entries of a layout."""
    return " ".join([show_entry(entry) for entry in layout])


def show_history(history):
    """The keys of a history."""
    return show_keys(history, " ")


def show_keys(keys, between):
    """Keys with a sign between them, or a stroke if there is none."""
    if len(keys) == 0:
        return NOTHING
    return between.join([str(key) for key in keys])


def show_entry(number):
    """A key or a slot, or a stroke if there is none."""
    return NOTHING if number == EMPTY else str(number)
