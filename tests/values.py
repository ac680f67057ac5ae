"""Values and settings that several tests need."""

import itertools
import random


def nested(inner, depth):
    """The value inside tuples, lists and dicts, one kind inside another, depth of them in all."""
    for level in range(depth):
        inner = ((inner,), [inner], {"a": inner})[level % 3]
    return inner


def tuples(inner, depth):
    """The value inside depth tuples."""
    for level in range(depth):
        inner = (inner,)
    return inner


def scalars():
    return [0, 1, 2, -1, 63, 64, 65, 10 ** 30, -(10 ** 30), True, False, None, "", "0", "01", "linear"]


def other_kinds():
    """Values of every kind that an argument "for any value" may have, none of them a probe order, probes or a rule."""
    found = scalars()
    found += [(), [], {}, ((),), ([],), ({},), [()], [[]], {"a": ()}, {0: 0}, {0: 0, 1: 1}]
    found += [(value,) for value in scalars() if repr(value) != "0"]
    found += [[value] for value in scalars()]
    found += [{value: value} for value in scalars()]
    found += [(value, value) for value in scalars()]
    found += [[0, 1], [1, 0], [(0, 1)], ([0, 1],), ((0, "1"),), ((0, None),), ((0, [1]),), ((0, (1,)),)]
    found += [nested(value, depth) for value in (0, True, None, "a", (), [], {}) for depth in (2, 3, 7, 28, 29)]
    found += [tuples(value, depth) for value in (0, True, None, "a", (), [], {}) for depth in (3, 4, 28, 29)]
    return found


def shuffled(count, seed):
    """Some order of 0 to count - 1, the same one for the same seed."""
    order = list(range(count))
    random.Random(f"{count} {seed}").shuffle(order)
    return tuple(order)


def orders_for(keys, slots, seed):
    return tuple(shuffled(keys, f"{seed} {slot}") for slot in range(slots))


def table_of_bits(keys, bits):
    """The table in which of the pairs of keys, as they come, the first one beats the other where its bit is set."""
    beaten = [[] for key in range(keys)]
    for at, (a, b) in enumerate(itertools.combinations(range(keys), 2)):
        winner, loser = (a, b) if bits >> at & 1 else (b, a)
        beaten[winner].append(loser)
    return tuple(tuple(sorted(row)) for row in beaten)


def pair_count(keys):
    return keys * (keys - 1) // 2


def some_table(keys, seed):
    return table_of_bits(keys, random.Random(f"{keys} {seed}").getrandbits(64 * 4) % (1 << pair_count(keys)))


def replaced(sequence, at, item):
    return sequence[:at] + (item,) + sequence[at + 1:]
