"""Values and settings that several tests need, and what the words of the document say of them, step by step."""

import itertools
import random

from samelayout.errors import LayoutError
from samelayout.probes import linear
from samelayout.rings import exchange, rings
from samelayout.rules import farther_rule, order_at, rule_of_orders
from samelayout.stable import stable_layouts, worst

SIZES = range(1, 17)
SMALL = ((1, 1), (1, 3), (3, 1), (2, 2), (3, 2), (2, 4), (3, 3), (4, 3), (4, 4), (3, 5), (5, 4))


def nested(inner, depth):
    """The value inside tuples, lists and dicts, one kind inside another, depth of them in all."""
    for level in range(depth):
        inner = ((inner,), [inner], {"a": inner})[level % 3]
    return inner


def tuples(inner, depth):
    """The value inside depth tuples."""
    for level in range(depth):
        inner = (inner,)
    return inner


def scalars():
    return [0, 1, 2, -1, 63, 64, 65, 10 ** 30, -(10 ** 30), True, False, None, "", "0", "01", "linear"]


def other_kinds():
    """Values of every kind that an argument "for any value" may have, none of them a probe order, probes or a rule."""
    found = scalars()
    found += [(), [], {}, ((),), ([],), ({},), [()], [[]], {"a": ()}, {0: 0}, {0: 0, 1: 1}]
    found += [(value,) for value in scalars() if repr(value) != "0"]
    found += [[value] for value in scalars()]
    found += [{value: value} for value in scalars()]
    found += [(value, value) for value in scalars()]
    found += [[0, 1], [1, 0], [(0, 1)], ([0, 1],), ((0, "1"),), ((0, None),), ((0, [1]),), ((0, (1,)),)]
    found += [nested(value, depth) for value in (0, True, None, "a", (), [], {}) for depth in (2, 3, 7, 28, 29)]
    found += [tuples(value, depth) for value in (0, True, None, "a", (), [], {}) for depth in (3, 4, 28, 29)]
    return found


def shuffled(count, seed):
    """Some order of 0 to count - 1, the same one for the same seed."""
    order = list(range(count))
    random.Random(f"{count} {seed}").shuffle(order)
    return tuple(order)


def orders_for(keys, slots, seed):
    return tuple(shuffled(keys, f"{seed} {slot}") for slot in range(slots))


def table_of_bits(keys, bits):
    """The table in which of the pairs of keys, as they come, the first one beats the other where its bit is set."""
    beaten = [[] for key in range(keys)]
    for at, (a, b) in enumerate(itertools.combinations(range(keys), 2)):
        winner, loser = (a, b) if bits >> at & 1 else (b, a)
        beaten[winner].append(loser)
    return tuple(tuple(sorted(row)) for row in beaten)


def pair_count(keys):
    return keys * (keys - 1) // 2


def some_table(keys, seed):
    return table_of_bits(keys, random.Random(f"{keys} {seed}").getrandbits(64 * 4) % (1 << pair_count(keys)))


def replaced(sequence, at, item):
    return sequence[:at] + (item,) + sequence[at + 1:]


def parts_replaced(value):
    """Copies of a value of nested tuples in each of which one part, or the whole, is of another kind."""
    if isinstance(value, tuple):
        yield from (list(value), dict(enumerate(value)), (value,), [value], None, True, False, "", 0, -1)
        for at, item in enumerate(value):
            for other in parts_replaced(item):
                yield replaced(value, at, other)
    elif isinstance(value, int):
        yield from (True, False, bool(value), None, "", str(value), (), (value,), [value], {value: value}, 10 ** 30)
    else:
        yield from (value + " ", value[1:], value.upper(), "", None, True, 0, (value,), [value], {value: value})


def some_probes(keys, slots, seed=0):
    return tuple(shuffled(slots, f"{seed} {key}") for key in range(keys))


def some_rule(keys, slots, seed=0):
    return tuple(some_table(keys, f"{seed} {slot}") for slot in range(slots))


def ordered_rule(keys, slots, seed=0):
    return rule_of_orders(orders_for(keys, slots, seed))


def mixed_rule(keys, slots, seed=0):
    """A rule that is ordered at some slots; at others it may have rings of keys."""
    choice = random.Random(f"{keys} {slots} {seed}")
    rules = (some_rule(keys, slots, seed), ordered_rule(keys, slots, seed))
    return tuple(rules[choice.randrange(2)][slot] for slot in range(slots))


def rings_of(table):
    """All rings of keys of a table, each from each of its keys on."""
    triples = itertools.permutations(range(len(table)), 3)
    return [(a, b, c) for a, b, c in triples if b in table[a] and c in table[b] and a in table[c]]


def ringed_table(order, at):
    """The table of an order, but the key at index at + 2 beats the one at index at."""
    table = [list(row) for row in rule_of_orders((order,))[0]]
    table[order[at]].remove(order[at + 2])
    table[order[at + 2]].append(order[at])
    return tuple(tuple(sorted(row)) for row in table)


def ringed_rule(keys, slots, ringed, seed=0):
    """A rule with rings of keys at just the given slots."""
    orders = orders_for(keys, slots, seed)
    rule = rule_of_orders(orders)
    for slot in ringed:
        rule = replaced(rule, slot, ringed_table(orders[slot], (slot + len(ringed)) % (keys - 2)))
    return rule


def blocks(sizes, more=0, seed=0):
    """Probes and an ordered rule: each block of keys would go round as many slots, against the slots' own orders.

    The stable layouts of all keys are as many as the product of the sizes. There are so many more slots, asked last.
    Keys and slots are then given other numbers.
    """
    keys = sum(sizes)
    key_names, slot_names = shuffled(keys, f"keys {seed}"), shuffled(keys + more, f"slots {seed}")
    probes, orders = [None] * keys, [None] * (keys + more)
    for size, first in zip(sizes, itertools.accumulate(sizes, initial=0)):
        rounds = [tuple(first + slot for slot in linear(size, home)) for home in range(size)]
        for at, order in enumerate(rounds):
            rest = tuple(slot for slot in range(keys + more) if slot not in order)
            probes[key_names[first + at]] = tuple(slot_names[slot] for slot in order + rest)
        rule = farther_rule(tuple(linear(size, home) for home in range(size)))
        for at in range(size):
            inside = tuple(first + key for key in order_at(rule, at))
            rest = tuple(key for key in range(keys) if key not in inside)
            orders[slot_names[first + at]] = tuple(key_names[key] for key in inside + rest)
    for at in range(keys, keys + more):
        orders[slot_names[at]] = shuffled(keys, f"{seed} {at}")
    return tuple(probes), rule_of_orders(tuple(orders))


def ordered_settings(sizes, seeds):
    """Probes and ordered rules."""
    for (keys, slots), seed in itertools.product(sizes, seeds):
        probes = some_probes(keys, slots, seed)
        yield probes, ordered_rule(keys, slots, seed)
        yield probes, farther_rule(probes)
        crowded = tuple(shuffled(slots, f"{seed} {key % 2}") for key in range(keys))
        yield crowded, ordered_rule(keys, slots, seed)
        against = tuple(linear(slots, key % slots) for key in range(keys))
        yield against, farther_rule(against)


def rich_settings():
    """Settings of at most seven keys with several stable layouts."""
    for seed, (sizes, more) in enumerate((((2,), 0), ((3,), 0), ((2, 2), 0), ((4,), 1), ((2, 1, 2), 0), ((3, 2), 2),
                                          ((1, 3), 3), ((2, 2, 2), 0), ((5,), 0), ((3, 3), 0), ((7,), 9))):
        yield blocks(sizes, more, seed)


def keys_of(layout):
    return tuple(sorted(key for key in layout if key != -1))


def sets_of(keys, most):
    """All ascending tuples of at most so many of the keys."""
    return [chosen for size in range(most + 1) for chosen in itertools.combinations(sorted(keys), size)]


def placements(keys, slots):
    """All layouts of these keys."""
    for places in itertools.permutations(range(slots), len(keys)):
        where = dict(zip(places, keys))
        yield tuple(where.get(slot, -1) for slot in range(slots))


def small_layouts():
    """All stable layouts of all sets of keys of small settings."""
    for probes, rule in [*ordered_settings(SMALL, range(3)), *list(rich_settings())[:-1]]:
        for keys in sets_of(range(len(probes)), min(len(probes), len(rule))):
            for layout in stable_layouts(probes, rule, keys):
                yield probes, rule, layout


def large_settings():
    """Settings of up to sixteen keys and slots, with keys of which the worst layout has rings."""
    for sizes, more in (((16,), 0), ((2,) * 8, 0), ((3, 5, 8), 0), ((4, 4), 8), ((2, 3, 4, 5), 2), ((15, 1), 0)):
        probes, rule = blocks(sizes, more)
        yield probes, rule, tuple(range(len(probes)))
    for keys, slots in ((16, 16), (16, 12), (12, 16), (14, 14)):
        for seed in range(12):
            yield some_probes(keys, slots, seed), ordered_rule(keys, slots, seed), tuple(range(min(keys, slots)))


def layouts_on_the_way(probes, rule, keys):
    """From the worst layout to the best one, the last ring first."""
    layout = worst(probes, rule, keys)
    yield layout
    while rings(probes, rule, layout):
        layout = exchange(probes, rule, layout, rings(probes, rule, layout)[-1])
        yield layout


def insert_by_words(probes, rule, layout, key):
    """What insert returns, by the words of section 6."""
    taken = {slot: holder for slot, holder in enumerate(layout) if holder != -1}
    stays = []
    left = list(probes[key])
    while left:
        slot = left.pop(0)
        if slot not in taken:
            taken[slot] = key
            stays.append((key, slot))
            return tuple(taken.get(slot, -1) for slot in range(len(layout))), tuple(stays)
        if key in rule[slot][taken[slot]]:
            continue
        stays.append((key, slot))
        key, taken[slot] = taken[slot], key
        left = list(probes[key])
        while left.pop(0) != slot:
            pass
    raise AssertionError("a key has met no slot that will have it")


def layout_by_words(probes, rule, history):
    layout = (-1,) * len(rule)
    for key in history:
        layout = insert_by_words(probes, rule, layout, key)[0]
    return layout


def reached_by_words(probes, rule):
    """For each ascending tuple of keys all layouts that its histories lead to."""
    reached = {}

    def go_on(history, layout):
        reached.setdefault(tuple(sorted(history)), set()).add(layout)
        if len(history) < len(rule):
            for key in range(len(probes)):
                if key not in history:
                    go_on(history + (key,), insert_by_words(probes, rule, layout, key)[0])

    go_on((), (-1,) * len(rule))
    return reached


def stable_by_words(probes, rule, layout):
    """Whether a layout is stable, by the words of section 8."""
    for own, key in enumerate(layout):
        if key != -1:
            for slot in probes[key]:
                if slot == own:
                    break
                if layout[slot] == -1 or layout[slot] in rule[slot][key]:
                    return False
    return True


def error_of(function, *values, **named):
    """The class of the error that a call raises, and what it holds; None if it raises none."""
    try:
        function(*values, **named)
    except LayoutError as error:
        return type(error), tuple(vars(error).values())
    return None
