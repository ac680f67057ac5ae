"""Stable layouts: no key would rather have another slot that would have it."""

from samelayout.errors import NotOrdered, TooMany
from samelayout.inserting import EMPTY, layout_of
from samelayout.rules import order_at, ring_at

MOST_KEYS = 7


def require_ordered(rule):
    """Raise NotOrdered with the least slot at which there is a ring of keys."""
    for slot in range(len(rule)):
        if ring_at(rule, slot) is not None:
            raise NotOrdered(slot)


def is_stable(probes, rule, layout):
    """Whether no key has, ahead of its own slot, one that is empty or whose key it beats there."""
    require_ordered(rule)
    return all_rest(probes, rule, layout)


def all_rest(probes, rule, layout):
    """Whether a layout is stable by a rule that is known to be ordered."""
    return all([key == EMPTY or rests(probes, rule, layout, key) for key in layout])


def rests(probes, rule, layout, key):
    """Whether a key has, ahead of its own slot, only taken ones whose keys it does not beat there."""
    ahead = slots_ahead(probes[key], layout.index(key))
    return all([layout[slot] != EMPTY and layout[slot] not in rule[slot][key] for slot in ahead])


def slots_ahead(order, slot):
    """The slots that stand ahead of one in a probe order."""
    return order[:order.index(slot)]


def best(probes, rule, keys):
    """The stable layout in which each key has the earliest slot that it has in any stable layout of these keys."""
    require_ordered(rule)
    return layout_of(probes, rule, keys)


def worst(probes, rule, keys):
    """The stable layout in which each key has the latest slot that it has in any stable layout of these keys."""
    require_ordered(rule)
    offers = [[key for key in order_at(rule, slot) if key in keys] for slot in range(len(rule))]
    held = {}
    for slot in range(len(rule)):
        offer(probes, offers, held, slot)
    return layout_with(held, len(rule))


def offer(probes, offers, held, slot):
    """Offer a slot to its keys, the strongest one first, until one holds it; a slot given up for it is offered on."""
    while offers[slot]:
        key = offers[slot].pop(0)
        if key not in held:
            held[key] = slot
            return
        held[key], slot = as_asked(probes[key], held[key], slot)


def as_asked(order, one, other):
    """Two slots, the one first that stands earlier in a probe order."""
    if order.index(one) < order.index(other):
        return (one, other)
    return (other, one)


def layout_with(held, count):
    """The layout of count slots in which each key has the slot that it holds."""
    layout = [EMPTY] * count
    for key, slot in held.items():
        layout[slot] = key
    return tuple(layout)


def stable_layouts(probes, rule, keys):
    """All stable layouts of these keys, ascending."""
    require_ordered(rule)
    if len(keys) > MOST_KEYS:
        raise TooMany(len(keys))
    # All stable layouts take the slots that the best one takes.
    reached = layout_of(probes, rule, keys)
    taken = [slot for slot in range(len(rule)) if reached[slot] != EMPTY]
    layouts = [(EMPTY,) * len(rule)]
    for key in keys:
        layouts = [with_key(layout, slot, key) for layout in layouts for slot in taken if layout[slot] == EMPTY]
    return tuple(sorted([layout for layout in layouts if all_rest(probes, rule, layout)]))


def with_key(layout, slot, key):
    """A layout with a key in a slot."""
    return layout[:slot] + (key,) + layout[slot + 1:]


def each_earlier(probes, one, other):
    """The layout in which each key has the earlier one of its slots in two layouts."""
    return each_at(probes, one, other, 0)


def each_later(probes, one, other):
    """The layout in which each key has the later one of its slots in two layouts."""
    return each_at(probes, one, other, 1)


def each_at(probes, one, other, at):
    """The layout in which each key has, of its slots in two layouts as it asks them, the one at an index."""
    held = {}
    for key in one:
        if key != EMPTY:
            held[key] = as_asked(probes[key], one.index(key), other.index(key))[at]
    return layout_with(held, len(one))
