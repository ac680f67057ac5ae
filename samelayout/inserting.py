"""Inserting: which slots the keys have behind a history of inserts."""

from samelayout.errors import Full, Present

EMPTY = -1


def insert(probes, rule, layout, key):
    """The layout behind the insert of a key, and all stays on the way to it, as pairs of a key and its slot."""
    if key in layout:
        raise Present(key)
    if EMPTY not in layout:
        raise Full()
    slots = list(layout)
    path = []
    asking = key
    slot = probes[key][0]
    while slots[slot] != EMPTY:
        if asking not in rule[slot][slots[slot]]:
            path.append((asking, slot))
            asking, slots[slot] = slots[slot], asking
        # A key never comes to the end of its probe order: the slots that it has asked are taken, and one is empty.
        slot = probes[asking][probes[asking].index(slot) + 1]
    slots[slot] = asking
    path.append((asking, slot))
    return tuple(slots), tuple(path)


def layout_of(probes, rule, history):
    """The layout that a history leads to."""
    layout = (EMPTY,) * len(rule)
    for key in history:
        layout = insert(probes, rule, layout, key)[0]
    return layout
