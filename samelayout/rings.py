"""Rings: slots of a stable layout whose keys may be exchanged, so that each key has an earlier slot."""

from samelayout.errors import NoRing
from samelayout.inserting import EMPTY
from samelayout.kinds import are_integers_within
from samelayout.stable import require_ordered, slots_ahead

NO_KEY = -1


def next_key(probes, rule, layout, slot):
    """The strongest key that is weaker than that of a taken slot and would rather have this slot, or -1."""
    require_ordered(rule)
    return key_behind(probes, rule, layout, slot)


def key_behind(probes, rule, layout, slot):
    """The next key of a taken slot, by a rule that is known to be ordered."""
    weaker = [key for key in rule[slot][layout[slot]] if key in layout]
    return strongest_asking(probes, rule, layout, slot, weaker)


def strongest_asking(probes, rule, layout, slot, keys):
    """The strongest at a slot of those of some keys in the layout that would rather have this slot, or -1."""
    asking = [key for key in keys if would_rather(probes, layout, key, slot)]
    # At a slot without a ring of keys the stronger key beats more keys.
    return max(asking, key=lambda key: len(rule[slot][key]), default=NO_KEY)


def would_rather(probes, layout, key, slot):
    """Whether a slot stands ahead of the key's own one in its probe order."""
    return slot in slots_ahead(probes[key], layout.index(key))


def rings(probes, rule, layout):
    """All rings of a stable layout, ascending."""
    require_ordered(rule)
    return rings_of(probes, rule, layout)


def rings_of(probes, rule, layout):
    """All rings of a stable layout, ascending, by a rule that is known to be ordered."""
    behind = {}
    for slot in range(len(layout)):
        if layout[slot] != EMPTY:
            key = key_behind(probes, rule, layout, slot)
            if key != NO_KEY:
                behind[slot] = layout.index(key)
    walks = [walk_from(behind, slot) for slot in sorted(behind)]
    # Each ring is walked from all of its slots; it is written from the least one on.
    return tuple([walk for walk in walks if behind.get(walk[-1]) == walk[0] and min(walk) == walk[0]])


def walk_from(behind, slot):
    """The slots from one on, each the one that stands behind the former one, until there is none or it was met."""
    walk = [slot]
    while walk[-1] in behind and behind[walk[-1]] not in walk:
        walk.append(behind[walk[-1]])
    return tuple(walk)


def exchange(probes, rule, layout, ring):
    """The layout in which each slot of a ring has its next key."""
    require_ordered(rule)
    # The kinds come first: to Python a bool equals an integer.
    if not are_integers_within(ring, 0, len(layout) - 1) or ring not in rings_of(probes, rule, layout):
        raise NoRing(ring)
    return exchanged(probes, rule, layout, ring)


def exchanged(probes, rule, layout, ring):
    """The layout behind the exchange of what is known to be one of its rings."""
    keys = list(layout)
    for slot in ring:
        keys[slot] = key_behind(probes, rule, layout, slot)
    return tuple(keys)


def rings_to_best(probes, rule, layout):
    """All rings that are exchanged on the way to the best layout, as tuples of slot, key and next key, ascending."""
    require_ordered(rule)
    passed = []
    found = rings_of(probes, rule, layout)
    # Every way to the best layout exchanges the same rings, so that any of them may be the next one.
    while found:
        after = exchanged(probes, rule, layout, found[0])
        passed.append(tuple([(slot, layout[slot], after[slot]) for slot in found[0]]))
        layout = after
        found = rings_of(probes, rule, layout)
    return tuple(sorted(passed))
