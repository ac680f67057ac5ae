"""Removing and looking up: what becomes of a slot that its key leaves, and where a key is."""

from samelayout.errors import Absent
from samelayout.inserting import EMPTY, layout_of
from samelayout.rings import NO_KEY, strongest_asking
from samelayout.stable import require_ordered

NO_SLOT = -1


def fill(probes, rule, layout, key):
    """The layout behind taking a key out and filling its slot, and all moves, as (key, former slot, new slot)."""
    require_ordered(rule)
    others = other_keys(layout, key)
    slots = list(layout)
    path = []
    empty = layout.index(key)
    slots[empty] = EMPTY
    moving = strongest_asking(probes, rule, slots, empty, others)
    while moving != NO_KEY:
        former = slots.index(moving)
        slots[empty] = moving
        slots[former] = EMPTY
        path.append((moving, former, empty))
        empty = former
        moving = strongest_asking(probes, rule, slots, empty, others)
    return tuple(slots), tuple(path)


def other_keys(layout, key):
    """The keys of a layout except one; raises Absent if that is not there."""
    if key not in layout:
        raise Absent(key)
    return tuple([other for other in layout if other != EMPTY and other != key])


def remove(probes, rule, layout, key):
    """The best layout of the other keys."""
    require_ordered(rule)
    # Filling the slot leads to a stable layout, but not always to the best one: the others are put in anew.
    return layout_of(probes, rule, other_keys(layout, key))


def look_up(probes, rule, layout, key):
    """The slot of a key, or -1, and how many slots were read until that was known."""
    require_ordered(rule)
    for reads, slot in enumerate(probes[key], start=1):
        if layout[slot] == key:
            return (slot, reads)
        # An insert would let the key stay here, so that it cannot be behind this slot.
        if layout[slot] == EMPTY or layout[slot] in rule[slot][key]:
            return (NO_SLOT, reads)
    return (NO_SLOT, len(layout))
