"""Judging: whether the layout depends only on the set of keys, and what shows it."""

from samelayout.errors import TooMany
from samelayout.inserting import EMPTY, insert, layout_of
from samelayout.kinds import are_integers_within, is_integer_within
from samelayout.probes import is_probe_order
from samelayout.rules import is_ascending, order_at, ring_at, rule_of_orders

MOST_KEYS = 8


def judge(rule):
    """The orders of the keys at all slots if the rule is ordered, otherwise the least slot with a ring of keys."""
    for slot in range(len(rule)):
        ring = ring_at(rule, slot)
        if ring is not None:
            return ("ring", slot, ring)
    return ("orders", tuple([order_at(rule, slot) for slot in range(len(rule))]))


def shows_judgement(rule, value):
    """Whether any value is the orders of the rule, or a slot with a ring of keys there, as judge returns them."""
    if not isinstance(value, tuple):
        return False
    if len(value) == 2 and value[0] == "orders":
        return are_orders(rule, value[1])
    if len(value) == 3 and value[0] == "ring":
        return is_ring_of_keys(rule, value[1], value[2])
    return False


def are_orders(rule, value):
    """Whether any value is the orders of the keys at the slots by which the rule is made."""
    keys = len(rule[0])
    # An order of the keys has the form that a probe order of as many slots has.
    if not isinstance(value, tuple) or not all([is_probe_order(keys, order) for order in value]):
        return False
    return rule_of_orders(value) == rule


def is_ring_of_keys(rule, slot, value):
    """Whether any two values are a slot and three keys of which each beats the next one there, the last the first."""
    if not is_integer_within(slot, 0, len(rule) - 1) or not are_keys(rule, value) or len(value) != 3:
        return False
    a, b, c = value
    table = rule[slot]
    return b in table[a] and c in table[b] and a in table[c]


def are_keys(rule, value):
    """Whether any value is a tuple of keys of the rule."""
    return are_integers_within(value, 0, len(rule[0]) - 1)


def unlike_somewhere(rule):
    """Probes, and two histories of the same three keys that lead to unlike layouts with them, or None."""
    judgement = judge(rule)
    if judgement[0] == "orders" or len(rule) < 3:
        return None
    slot = judgement[1]
    a, b, c = judgement[2]
    order = (slot,) + tuple([other for other in range(len(rule)) if other != slot])
    # All ask the ringed slot first, and whichever key comes last beats the winner of the two ahead of it there.
    return ((order,) * len(rule[0]), (a, b, c), (b, c, a))


def shows_unlike(probes, rule, value):
    """Whether any value is two histories of the same keys that lead to unlike layouts."""
    if not isinstance(value, tuple) or len(value) != 2:
        return False
    one, other = value
    if not is_history(rule, one) or not is_history(rule, other) or sorted(one) != sorted(other):
        return False
    return layout_of(probes, rule, one) != layout_of(probes, rule, other)


def is_history(rule, value):
    """Whether any value is a tuple of different keys, at most as many as there are slots."""
    return are_keys(rule, value) and len(set(value)) == len(value) and len(value) <= len(rule)


def unlike(probes, rule):
    """Two histories of the same, as few as possible, keys that lead to unlike layouts, or None."""
    return search(probes, rule)[1]


def all_layouts(probes, rule):
    """The layouts of all sets of keys, or None if the layout of one depends on its history."""
    layouts, found = search(probes, rule)
    if found is not None:
        return None
    return tuple(sorted(layouts.items()))


def search(probes, rule):
    """The layouts of the sets up to the first one whose histories lead to unlike layouts, and two such, or None."""
    if len(probes) > MOST_KEYS:
        raise TooMany(len(probes))
    layouts = {(): layout_of(probes, rule, ())}
    # Fewer keys come first, so that a set is reached only if each one inside it has one layout for all histories.
    for keys in sets_by_size(rule)[1:]:
        behind = layouts_behind(probes, rule, layouts, keys)
        for key, layout in zip(keys, behind):
            if layout != behind[0]:
                return layouts, (moved_last(keys, keys[0]), moved_last(keys, key))
        layouts[keys] = behind[0]
    return layouts, None


def sets_by_size(rule):
    """All ascending tuples of at most as many keys as there are slots, those with fewer keys first."""
    sets = [()]
    layer = [()]
    while layer:
        layer = [more for keys in layer for more in with_greater_key(rule, keys)]
        sets = sets + layer
    return sets


def with_greater_key(rule, keys):
    """An ascending tuple of keys with each greater key behind it, if there is a slot for one."""
    if len(keys) == len(rule):
        return []
    least = keys[-1] + 1 if keys else 0
    return [keys + (key,) for key in range(least, len(rule[0]))]


def layouts_behind(probes, rule, layouts, keys):
    """For each key of a set the layout behind its insert into the layout of the others."""
    return [insert(probes, rule, layouts[without(keys, key)], key)[0] for key in keys]


def without(keys, key):
    """A tuple of keys, one of them left out."""
    return tuple([other for other in keys if other != key])


def moved_last(keys, key):
    """A tuple of keys, one of them put behind the others."""
    return without(keys, key) + (key,)


def shows_layouts(probes, rule, value):
    """Whether any value is the layouts of all sets of keys, each the one behind the insert of each of its keys."""
    if not isinstance(value, tuple) or not all([is_entry(rule, entry) for entry in value]):
        return False
    layouts = {keys: layout for keys, layout in value}
    if [keys for keys, layout in value] != sorted(layouts) or not has_all_sets(rule, layouts):
        return False
    if layouts[()] != layout_of(probes, rule, ()):
        return False
    # Fewer keys come first, so that an insert meets only layouts that some history leads to.
    for keys in sorted(layouts, key=len):
        if any([layout != layouts[keys] for layout in layouts_behind(probes, rule, layouts, keys)]):
            return False
    return True


def is_entry(rule, value):
    """Whether any value is an ascending tuple of keys and a tuple of what the slots of a layout may have."""
    if not isinstance(value, tuple) or len(value) != 2:
        return False
    return is_ascending(len(rule[0]), value[0]) and are_integers_within(value[1], EMPTY, len(rule[0]) - 1)


def has_all_sets(rule, layouts):
    """Whether each set of at most as many keys as there are slots has a layout, and no larger one."""
    if () not in layouts or max([len(keys) for keys in layouts]) > len(rule):
        return False
    return all([more in layouts for keys in layouts for more in with_greater_key(rule, keys)])
