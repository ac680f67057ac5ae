"""Rules: which of two keys stays in a slot."""

from samelayout.kinds import are_integers_within
from samelayout.probes import is_probe_order

MOST = 16


def are_probes(value):
    """Whether any value is a tuple of one probe order for each key."""
    if not is_sized(value) or not is_sized(value[0]):
        return False
    slots = len(value[0])
    return all([is_probe_order(slots, order) for order in value])


def is_rule(value):
    """Whether any value is a tuple of one table for each slot."""
    if not is_sized(value) or not is_sized(value[0]):
        return False
    keys = len(value[0])
    return all([is_table(keys, table) for table in value])


def is_sized(value):
    """Whether any value is a tuple of as many items as there may be keys, or slots."""
    return isinstance(value, tuple) and 1 <= len(value) <= MOST


def is_table(keys, value):
    """Whether any value is a tuple of the keys that each key beats, as a table has them."""
    if not isinstance(value, tuple) or len(value) != keys:
        return False
    if not all([is_ascending(keys, beaten) for beaten in value]):
        return False
    return all([is_decided(value, a, b) for a in range(keys) for b in range(a + 1)])


def is_ascending(keys, value):
    """Whether any value is an ascending tuple of keys."""
    if not are_integers_within(value, 0, keys - 1):
        return False
    return all([key < after for key, after in zip(value, value[1:])])


def is_decided(table, a, b):
    """Whether exactly one of two keys beats the other one, or, if they are one key, it does not beat itself."""
    if a == b:
        return a not in table[a]
    return (b in table[a]) != (a in table[b])


def rule_of_orders(orders):
    """The rule by which at each slot each key of its order beats all behind it."""
    return tuple([table_of_order(order) for order in orders])


def table_of_order(order):
    """The table by which each key of an order beats all behind it."""
    return tuple([tuple(sorted(order[order.index(key) + 1:])) for key in range(len(order))])


def order_at(rule, slot):
    """The keys at a slot, the strongest one first, or None if there is a ring of keys."""
    if ring_at(rule, slot) is not None:
        return None
    table = rule[slot]
    # Without a ring each key beats all that a weaker one beats, and that one too.
    return tuple(sorted(range(len(table)), key=lambda key: -len(table[key])))


def ring_at(rule, slot):
    """Three keys at a slot of which each beats the next one, and the last one the first, or None."""
    table = rule[slot]
    for a in range(len(table)):
        for b in table[a]:
            for c in table[b]:
                if a in table[c]:
                    return (a, b, c)
    return None


def is_ordered(rule):
    """Whether there is no ring of keys at any slot."""
    return all([ring_at(rule, slot) is None for slot in range(len(rule))])


def farther_rule(probes):
    """The rule by which the key stays that has come farther, of two equally far ones the lesser one."""
    return rule_of_orders(tuple([farther_order(probes, slot) for slot in range(len(probes[0]))]))


def farther_order(probes, slot):
    """The keys at a slot, the one first in whose probe order it stands latest."""
    return tuple(sorted(range(len(probes)), key=lambda key: (-probes[key].index(slot), key)))
