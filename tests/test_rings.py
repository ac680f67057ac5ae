"""Rings, section 9 of the document, and what guarantee (b) says of them."""

import copy
import itertools
import unittest

from samelayout.errors import NoRing, NotOrdered
from samelayout.rings import exchange, next_key, rings, rings_to_best
from samelayout.rules import order_at, rule_of_orders
from samelayout.stable import best, stable_layouts, worst
from tests.values import (
    SIZES, blocks, error_of, keys_of, large_settings, layouts_on_the_way, ordered_rule, ordered_settings, other_kinds,
    parts_replaced, replaced, rich_settings, ringed_rule, shuffled, small_layouts, some_probes, some_rule,
    stable_by_words)

PROBES = ((0, 1, 2), (0, 1, 2), (1, 0, 2))
RULE = rule_of_orders(((0, 2, 1), (1, 2, 0), (0, 1, 2)))


def next_by_words(probes, rule, layout, slot):
    """The next key of a taken slot: the first one behind its own in the order there that asks the slot earlier."""
    order = order_at(rule, slot)
    for key in order[order.index(layout[slot]) + 1:]:
        if key in layout and probes[key].index(slot) < probes[key].index(layout.index(key)):
            return key
    return -1


def taken_slots(layout):
    return [slot for slot, key in enumerate(layout) if key != -1]


def is_ring_by_words(behind, layout, slots):
    """Whether these slots are a ring, given the next keys of all taken ones."""
    if len(slots) < 2 or len(set(slots)) != len(slots) or slots[0] != min(slots):
        return False
    return all(behind[slot] == layout[after] for slot, after in zip(slots, slots[1:] + slots[:1]))


def rings_by_words(probes, rule, layout):
    """All rings, by going through all tuples of taken slots."""
    taken = taken_slots(layout)
    behind = {slot: next_by_words(probes, rule, layout, slot) for slot in taken}
    tuples = [slots for size in range(len(taken) + 1) for slots in itertools.permutations(taken, size)]
    return tuple(sorted(slots for slots in tuples if is_ring_by_words(behind, layout, slots)))


def exchange_by_words(probes, rule, layout, ring):
    return tuple(next_by_words(probes, rule, layout, slot) if slot in ring else key for slot, key in enumerate(layout))


class RingsTest(unittest.TestCase):

    def check_next_keys(self, probes, rule, layout):
        for slot in taken_slots(layout):
            found = next_key(probes, rule, layout, slot)
            self.assertEqual(repr(found), repr(next_by_words(probes, rule, layout, slot)))

    def check_exchanges(self, probes, rule, layout):
        for ring in rings(probes, rule, layout):
            before = repr((probes, rule, layout, ring))
            found = exchange(probes, rule, layout, ring)
            self.assertEqual(repr(found), repr(exchange_by_words(probes, rule, layout, ring)))
            self.assertTrue(stable_by_words(probes, rule, found))
            self.assertEqual(keys_of(found), keys_of(layout))
            for key in keys_of(layout):
                old, new = (probes[key].index(where.index(key)) for where in (layout, found))
                self.assertEqual(new < old, layout.index(key) in ring)
                self.assertLessEqual(new, old)
            self.assertEqual(repr((probes, rule, layout, ring)), before)

    def test_all_stable_layouts_of_small_settings(self):
        many = 0
        for probes, rule, layout in small_layouts():
            self.check_next_keys(probes, rule, layout)
            found = rings(probes, rule, layout)
            self.assertEqual(repr(found), repr(rings_by_words(probes, rule, layout)))
            self.check_exchanges(probes, rule, layout)
            self.assertEqual(found == (), layout == best(probes, rule, keys_of(layout)))
            many += len(found)
        self.assertGreater(many, 200)

    def test_large_settings(self):
        lengths = set()
        for probes, rule, keys in large_settings():
            for layout in layouts_on_the_way(probes, rule, keys):
                self.check_next_keys(probes, rule, layout)
                self.check_exchanges(probes, rule, layout)
                behind = {slot: next_by_words(probes, rule, layout, slot) for slot in taken_slots(layout)}
                found = rings(probes, rule, layout)
                self.assertEqual(list(found), sorted(set(found)))
                for ring in found:
                    self.assertIs(type(ring), tuple)
                    self.assertTrue(is_ring_by_words(behind, layout, ring))
                    lengths.add(len(ring))
                self.assertEqual(len(found), self.count_rings(behind, layout))
            self.assertEqual(layout, best(probes, rule, keys))
            self.assertEqual(rings_to_best(probes, rule, layout), ())
        self.assertGreater(len(lengths), 5)
        self.assertIn(16, lengths)

    def count_rings(self, behind, layout):
        """How many rings there are: go far enough from each slot, and see which slots are still met."""
        met = set(behind)
        for step in range(len(layout)):
            met = {layout.index(behind[slot]) for slot in met if behind[slot] != -1}
        return len({frozenset(self.round(behind, layout, slot)) for slot in met})

    def round(self, behind, layout, slot):
        for step in range(len(layout)):
            yield slot
            slot = layout.index(behind[slot])

    def test_several_rings_at_once(self):
        probes, rule = blocks((2,) * 8)
        layout = worst(probes, rule, tuple(range(16)))
        found = rings(probes, rule, layout)
        self.assertEqual([len(ring) for ring in found], [2] * 8)
        self.assertEqual(sorted(slot for ring in found for slot in ring), list(range(16)))

    def test_a_ring_of_all_slots(self):
        for size in range(2, 17):
            probes, rule = blocks((size,))
            layout = worst(probes, rule, tuple(range(size)))
            for step in range(size - 1):
                (ring,) = rings(probes, rule, layout)
                self.assertEqual((len(ring), ring[0]), (size, 0))
                layout = exchange(probes, rule, layout, ring)
            self.assertEqual(rings(probes, rule, layout), ())

    def test_the_best_layout_has_none(self):
        for keys, slots in itertools.product(SIZES, SIZES):
            for probes, rule in ordered_settings(((keys, slots),), (2,)):
                layout = best(probes, rule, tuple(sorted(shuffled(keys, 1)[:slots])))
                self.assertEqual(rings(probes, rule, layout), ())
                self.assertEqual(rings_to_best(probes, rule, layout), ())

    def test_no_keys_one_key_one_slot(self):
        for keys, slots in itertools.product(SIZES, SIZES):
            probes, rule = some_probes(keys, slots), ordered_rule(keys, slots)
            for chosen in ((), (0,), (keys - 1,)):
                layout = worst(probes, rule, chosen)
                self.assertEqual(rings(probes, rule, layout), ())
                self.assertEqual(rings_to_best(probes, rule, layout), ())
                for slot in taken_slots(layout):
                    self.assertEqual(next_key(probes, rule, layout, slot), -1)

    def test_arguments_by_name(self):
        layout = (2, 1, -1)
        self.assertEqual(next_key(slot=0, layout=layout, rule=RULE, probes=PROBES), 1)
        self.assertEqual(rings(layout=layout, rule=RULE, probes=PROBES), ((0, 1),))
        self.assertEqual(exchange(ring=(0, 1), layout=layout, rule=RULE, probes=PROBES), (1, 2, -1))
        found = rings_to_best(layout=layout, rule=RULE, probes=PROBES)
        self.assertEqual(found, (((0, 2, 1), (1, 1, 2)),))


class RingsToBestTest(unittest.TestCase):

    def all_ways(self, probes, rule, layout, known):
        """The rings that every way from a layout on exchanges, by going through all first ones."""
        if layout not in known:
            ways = []
            for ring in rings(probes, rule, layout):
                after = exchange_by_words(probes, rule, layout, ring)
                told = tuple((slot, layout[slot], after[slot]) for slot in ring)
                ways.append(frozenset({told}) | self.all_ways(probes, rule, after, known))
            self.assertLessEqual(len(set(ways)), 1)
            if not ways:
                self.assertEqual(layout, best(probes, rule, keys_of(layout)))
            known[layout] = ways[0] if ways else frozenset()
        return known[layout]

    def check(self, probes, rule, layout, known):
        expected = tuple(sorted(self.all_ways(probes, rule, layout, known)))
        self.assertEqual(repr(rings_to_best(probes, rule, layout)), repr(expected))
        return len(expected)

    def test_all_stable_layouts_of_small_settings(self):
        found = [self.check(probes, rule, layout, {}) for probes, rule, layout in small_layouts()]
        self.assertGreater(len([many for many in found if many > 1]), 50)

    def test_large_settings(self):
        for probes, rule, keys in large_settings():
            known = {}
            for layout in layouts_on_the_way(probes, rule, keys):
                self.check(probes, rule, layout, known)

    def test_how_many_there_are(self):
        for sizes in ((16,), (2,) * 8, (3, 5, 8), (7, 9), (1,) * 16):
            probes, rule = blocks(sizes)
            layout = worst(probes, rule, tuple(range(16)))
            found = rings_to_best(probes, rule, layout)
            self.assertEqual(len(found), sum(size - 1 for size in sizes))
            self.assertEqual(sum(len(ring) for ring in found), sum(size * (size - 1) for size in sizes))
            for ring in found:
                self.assertEqual(min(ring), ring[0])


class ExchangeErrorsTest(unittest.TestCase):

    def refuse(self, probes, rule, layout, value):
        before = copy.deepcopy(value)
        with self.assertRaises(NoRing) as caught:
            exchange(probes, rule, layout, value)
        self.assertIs(type(caught.exception), NoRing)
        self.assertIs(caught.exception.value, value)
        self.assertEqual(repr(value), repr(before))

    def test_all_tuples_of_slots(self):
        for probes, rule in list(rich_settings())[:6]:
            slots = len(rule)
            tuples = [chosen for size in range(4) for chosen in itertools.product(range(-1, slots + 1), repeat=size)]
            for layout in stable_layouts(probes, rule, tuple(range(len(probes)))):
                found = rings_by_words(probes, rule, layout)
                for value in tuples + list(itertools.permutations(range(slots))):
                    if value in found:
                        exchange(probes, rule, layout, value)
                    else:
                        self.refuse(probes, rule, layout, value)

    def test_rings_turned_round_and_parts_of_rings(self):
        for probes, rule, keys in large_settings():
            layout = worst(probes, rule, keys)
            found = rings(probes, rule, layout)
            for ring in found:
                for at in range(1, len(ring)):
                    self.refuse(probes, rule, layout, ring[at:] + ring[:at])
                    self.refuse(probes, rule, layout, ring[:at])
                    self.refuse(probes, rule, layout, ring[at:])
                    self.refuse(probes, rule, layout, replaced(ring, at, ring[0]))
                    self.refuse(probes, rule, layout, replaced(ring, at, ring[at] - len(rule)))
                if len(ring) > 2:
                    self.refuse(probes, rule, layout, ring[:1] + ring[:0:-1])
                self.refuse(probes, rule, layout, ring + ring)
                self.refuse(probes, rule, layout, ring + ring[:1])
                for other in found:
                    if other != ring:
                        self.refuse(probes, rule, layout, ring + other)
            self.refuse(probes, rule, layout, found)

    def test_parts_of_other_kinds(self):
        for sizes, more in (((2,), 0), ((3,), 1), ((2, 2), 0), ((16,), 0), ((3, 5, 8), 0)):
            probes, rule = blocks(sizes, more)
            layout = worst(probes, rule, tuple(range(len(probes))))
            for ring in rings(probes, rule, layout):
                for value in parts_replaced(ring):
                    self.refuse(probes, rule, layout, value)
                for at in range(len(ring)):
                    for value in other_kinds():
                        if not isinstance(value, int) or isinstance(value, bool):
                            self.refuse(probes, rule, layout, replaced(ring, at, value))

    def test_bools_that_equal_the_slots(self):
        for value in ((False, True), (0, True), (False, 1), [0, 1], [False, True], {0: 0, 1: 1}, "01", ((0, 1),)):
            self.refuse(PROBES, RULE, (2, 1, -1), value)

    def test_values_of_other_kinds(self):
        for layout in ((2, 1, -1), (1, 2, -1), (0, 1, 2), (-1, -1, -1), (2, -1, -1)):
            for value in other_kinds():
                self.refuse(PROBES, RULE, layout, value)
        for keys, slots in ((1, 1), (16, 1), (1, 16), (16, 16)):
            probes, rule = some_probes(keys, slots), ordered_rule(keys, slots)
            for value in other_kinds():
                self.refuse(probes, rule, worst(probes, rule, (0,)), value)

    def test_a_ring_of_another_layout(self):
        for probes, rule, keys in large_settings():
            before = worst(probes, rule, keys)
            for ring in rings(probes, rule, before):
                after = exchange(probes, rule, before, ring)
                if ring not in rings(probes, rule, after):
                    self.refuse(probes, rule, after, ring)
                self.refuse(probes, rule, best(probes, rule, keys), ring)


class NotOrderedTest(unittest.TestCase):

    def check(self, rule, least):
        keys, slots = len(rule[0]), len(rule)
        probes = some_probes(keys, slots)
        layout = tuple(keys - 1 if slot == probes[keys - 1][0] else -1 for slot in range(slots))
        expected = (NotOrdered, (least,))
        self.assertEqual(error_of(next_key, probes, rule, layout, probes[keys - 1][0]), expected)
        self.assertEqual(error_of(rings, probes, rule, layout), expected)
        self.assertEqual(error_of(rings, probes, rule, (-1,) * slots), expected)
        self.assertEqual(error_of(rings_to_best, probes, rule, layout), expected)
        for ring in ((0, 1), (), None, [0, 1], "ring", {0: 1}, ((),), True):
            self.assertEqual(error_of(exchange, probes, rule, layout, ring), expected)

    def test_a_ring_of_keys_at_one_slot(self):
        for keys, slots in itertools.product((3, 4, 9, 16), SIZES):
            for slot in range(slots):
                self.check(ringed_rule(keys, slots, (slot,)), slot)

    def test_rings_of_keys_at_several_slots(self):
        for keys, slots in itertools.product((3, 5, 16), range(2, 17)):
            for least in range(slots - 1):
                self.check(ringed_rule(keys, slots, (slots - 1, least)), least)

    def test_rules_of_all_sizes(self):
        for keys, slots in itertools.product(range(3, 17), SIZES):
            rule = some_rule(keys, slots, 3)
            ordered = [order_at(rule, slot) is not None for slot in range(slots)]
            if not all(ordered):
                self.check(rule, ordered.index(False))
