"""Rules, section 5 of the document."""

import copy
import itertools
import unittest

from samelayout.probes import linear
from samelayout.rules import are_probes, farther_rule, is_ordered, is_rule, order_at, ring_at, rule_of_orders
from tests.values import (
    SIZES, orders_for, other_kinds, pair_count, replaced, ringed_table, rings_of, shuffled, some_probes, some_rule,
    some_table, table_of_bits)


class AnyValueTest(unittest.TestCase):

    def check(self, function, value, expected):
        before = copy.deepcopy(value)
        self.assertIs(function(value), expected, value)
        self.assertEqual(repr(value), repr(before))


class AreProbesTest(AnyValueTest):

    def test_probes_of_all_sizes(self):
        for keys in SIZES:
            for slots in SIZES:
                self.check(are_probes, some_probes(keys, slots), True)
                self.check(are_probes, (linear(slots, 0),) * keys, True)

    def test_too_few_and_too_many(self):
        for size in SIZES:
            self.check(are_probes, ((),) * size, False)
            self.check(are_probes, some_probes(17, size), False)
            self.check(are_probes, some_probes(size, 17), False)
        self.check(are_probes, (), False)
        self.check(are_probes, some_probes(17, 17), False)

    def test_unlike_lengths(self):
        for keys in range(2, 17):
            for slots in SIZES:
                for at in (0, keys // 2, keys - 1):
                    for length in (slots - 1, slots + 1):
                        self.check(are_probes, replaced(some_probes(keys, slots), at, tuple(range(length))), False)

    def test_one_slot_replaced(self):
        for keys, slots in itertools.product((1, 2, 5, 16), (1, 2, 5, 16)):
            probes = some_probes(keys, slots)
            for key, at in itertools.product(range(keys), range(slots)):
                slot = probes[key][at]
                wrong = [slots, -1, bool(slot), True, False, None, str(slot), (slot,), [slot], {slot: slot}]
                wrong += [probes[key][at - 1]] if slots > 1 else []
                for item in wrong:
                    self.check(are_probes, replaced(probes, key, replaced(probes[key], at, item)), False)

    def test_lists_in_place_of_tuples(self):
        for keys, slots in itertools.product(SIZES, SIZES):
            probes = some_probes(keys, slots)
            self.check(are_probes, list(probes), False)
            self.check(are_probes, tuple(list(order) for order in probes), False)
            self.check(are_probes, replaced(probes, keys - 1, list(probes[-1])), False)
            self.check(are_probes, dict(enumerate(probes)), False)

    def test_one_order_replaced(self):
        for keys in (1, 2, 16):
            for value in other_kinds():
                self.check(are_probes, replaced(some_probes(keys, 3), keys - 1, value), False)
                self.check(are_probes, replaced(some_probes(keys, 3), 0, value), False)

    def test_values_of_other_kinds(self):
        for value in other_kinds():
            self.check(are_probes, value, False)

    def test_the_only_small_ones(self):
        items = (0, 1, 2, -1, True, False)
        orders = [order for length in range(3) for order in itertools.product(items, repeat=length)]
        found = [probes for keys in range(3) for probes in itertools.product(orders, repeat=keys) if are_probes(probes)]
        expected = [((0,),), ((0, 1),), ((1, 0),), ((0,), (0,))]
        expected += list(itertools.product([(0, 1), (1, 0)], repeat=2))
        self.assertEqual(sorted(map(repr, found)), sorted(map(repr, expected)))


class IsRuleTest(AnyValueTest):

    def test_rules_of_all_sizes(self):
        for keys in SIZES:
            for slots in SIZES:
                self.check(is_rule, some_rule(keys, slots), True)
                self.check(is_rule, rule_of_orders(orders_for(keys, slots, 0)), True)

    def test_too_few_and_too_many(self):
        for size in SIZES:
            self.check(is_rule, ((),) * size, False)
            self.check(is_rule, some_rule(17, size), False)
            self.check(is_rule, some_rule(size, 17), False)
        self.check(is_rule, (), False)
        self.check(is_rule, some_rule(17, 17), False)

    def test_tables_of_unlike_numbers_of_keys(self):
        for keys in SIZES:
            for slots in range(2, 17):
                for at in (0, slots // 2, slots - 1):
                    self.check(is_rule, replaced(some_rule(keys, slots), at, some_table(keys + 1, 0)), False)
                    self.check(is_rule, replaced(some_rule(keys + 1, slots), at, some_table(keys, 0)), False)

    def with_row(self, rule, slot, key, row):
        return replaced(rule, slot, replaced(rule[slot], key, row))

    def test_pairs_that_are_not_decided(self):
        for keys, slots in ((2, 1), (2, 16), (3, 2), (5, 3), (16, 1), (16, 2)):
            rule = some_rule(keys, slots)
            for slot, a, b in itertools.product(range(slots), range(keys), range(keys)):
                row = rule[slot][a]
                changed = sorted(set(row) ^ {b})
                self.check(is_rule, self.with_row(rule, slot, a, tuple(changed)), False)

    def test_a_key_that_beats_itself(self):
        for keys, slots in itertools.product(SIZES, SIZES):
            rule = some_rule(keys, slots)
            for key in range(keys):
                row = tuple(sorted(rule[slots - 1][key] + (key,)))
                self.check(is_rule, self.with_row(rule, slots - 1, key, row), False)

    def test_rows_that_are_not_ascending(self):
        for keys, slots in itertools.product(range(2, 17), (1, 2, 16)):
            rule = rule_of_orders(orders_for(keys, slots, 1))
            for key in range(keys):
                row = rule[slots - 1][key]
                if len(row) > 1:
                    self.check(is_rule, self.with_row(rule, slots - 1, key, row[::-1]), False)
                    self.check(is_rule, self.with_row(rule, slots - 1, key, row[1:] + row[:1]), False)
                if row:
                    self.check(is_rule, self.with_row(rule, slots - 1, key, row[:1] + row), False)
                    self.check(is_rule, self.with_row(rule, slots - 1, key, row + row[-1:]), False)

    def test_one_key_replaced(self):
        for keys, slots in ((2, 1), (3, 2), (16, 3)):
            rule = some_rule(keys, slots)
            for slot, key in itertools.product(range(slots), range(keys)):
                for at, beaten in enumerate(rule[slot][key]):
                    wrong = [True, False, None, str(beaten), (beaten,), [beaten], {beaten: beaten}, keys, -1, 10 ** 30]
                    for item in wrong:
                        row = replaced(rule[slot][key], at, item)
                        self.check(is_rule, self.with_row(rule, slot, key, row), False)

    def test_keys_that_there_are_not(self):
        for keys, slots in itertools.product(SIZES, (1, 2, 16)):
            rule = some_rule(keys, slots)
            for key in range(keys):
                row = rule[slots - 1][key]
                for wrong in (row + (keys,), (-1,) + row, row + (keys + 1,), row + (None,), row + ("a",), row + ([],)):
                    self.check(is_rule, self.with_row(rule, slots - 1, key, wrong), False)

    def test_bools_that_equal_the_keys(self):
        self.check(is_rule, (((1,), ()),), True)
        self.check(is_rule, (((True,), ()),), False)
        self.check(is_rule, (((), (0,)),), True)
        self.check(is_rule, (((), (False,)),), False)
        self.check(is_rule, ((False,),), False)

    def test_lists_in_place_of_tuples(self):
        for keys, slots in itertools.product(SIZES, SIZES):
            rule = some_rule(keys, slots)
            self.check(is_rule, list(rule), False)
            self.check(is_rule, replaced(rule, slots - 1, list(rule[-1])), False)
            self.check(is_rule, self.with_row(rule, slots - 1, keys - 1, list(rule[-1][-1])), False)
            self.check(is_rule, dict(enumerate(rule)), False)

    def test_parts_of_other_kinds(self):
        for value in other_kinds():
            for at in range(3):
                self.check(is_rule, replaced(some_rule(3, 3), at, value), False)
                if repr(value) != "()":
                    rows = (((1, 2), (2,), ()),) * 2
                    self.check(is_rule, self.with_row(rows, 1, 2, value), False)

    def test_values_of_other_kinds(self):
        for value in other_kinds():
            self.check(is_rule, value, False)

    def test_the_only_rule_of_one_key(self):
        self.check(is_rule, (((),),), True)
        self.check(is_rule, (((0,),),), False)
        self.check(is_rule, ((),), False)

    def test_the_only_tables_of_two_keys(self):
        items = (0, 1, 2, -1, True, False)
        rows = [row for length in range(4) for row in itertools.product(items, repeat=length)]
        found = [table for table in itertools.product(rows, repeat=2) if is_rule((table,))]
        self.assertEqual(sorted(map(repr, found)), sorted(map(repr, [((1,), ()), ((), (0,))])))

    def test_the_only_tables_of_three_keys(self):
        rows = [row for length in range(4) for row in itertools.product(range(3), repeat=length)]
        found = [table for table in itertools.product(rows, repeat=3) if is_rule((table,))]
        self.assertEqual(sorted(found), sorted(table_of_bits(3, bits) for bits in range(8)))


class OrdersAndRingsTest(unittest.TestCase):

    def check_ordered(self, orders):
        rule = rule_of_orders(orders)
        self.assertTrue(is_rule(rule))
        self.assertEqual(len(rule), len(orders))
        for slot, order in enumerate(orders):
            for a, b in itertools.permutations(order, 2):
                self.assertEqual(b in rule[slot][a], order.index(a) < order.index(b))
            found = order_at(rule, slot)
            self.assertEqual(found, order)
            self.assertIs(type(found), tuple)
            self.assertIsNone(ring_at(rule, slot))
        self.assertIs(is_ordered(rule), True)

    def check_table(self, table):
        """A table at the only slot, ordered or not."""
        rings = rings_of(table)
        ring = ring_at((table,), 0)
        self.assertIs(is_ordered((table,)), not rings)
        if rings:
            self.assertIsNone(order_at((table,), 0))
            self.assertIs(type(ring), tuple)
            self.assertIn(ring, rings)
        else:
            self.assertIsNone(ring)
            self.assertEqual(rule_of_orders((order_at((table,), 0),)), (table,))

    def test_orders_of_all_sizes(self):
        for keys, slots in itertools.product(SIZES, SIZES):
            self.check_ordered(orders_for(keys, slots, 2))

    def test_all_orders_of_few_keys(self):
        for keys in range(1, 6):
            for order in itertools.permutations(range(keys)):
                self.check_ordered((order,))

    def test_all_tables_of_few_keys(self):
        for keys in range(1, 6):
            for bits in range(1 << pair_count(keys)):
                self.check_table(table_of_bits(keys, bits))

    def test_tables_of_more_keys(self):
        for keys in range(6, 17):
            for seed in range(10):
                self.check_table(some_table(keys, seed))

    def test_one_ring_in_an_order(self):
        for keys in range(3, 17):
            order = shuffled(keys, 5)
            for at in range(keys - 2):
                table = ringed_table(order, at)
                self.assertEqual(len(rings_of(table)), 3)
                self.check_table(table)

    def test_a_ring_at_one_slot_only(self):
        for keys, slots in itertools.product(range(3, 17), SIZES):
            orders = orders_for(keys, slots, 3)
            for slot in range(slots):
                table = ringed_table(orders[slot], (keys - 3) // 2)
                rule = replaced(rule_of_orders(orders), slot, table)
                self.assertTrue(is_rule(rule))
                self.assertIs(is_ordered(rule), False)
                for at in range(slots):
                    self.assertEqual(order_at(rule, at), None if at == slot else orders[at])
                    self.assertEqual(ring_at(rule, at) is None, at != slot)
                self.assertIn(ring_at(rule, slot), rings_of(table))

    def test_fewer_than_three_keys_have_no_ring(self):
        for keys, slots in itertools.product((1, 2), SIZES):
            rule = some_rule(keys, slots)
            self.assertIs(is_ordered(rule), True)
            for slot in range(slots):
                self.assertIsNone(ring_at(rule, slot))
                self.assertEqual(sorted(order_at(rule, slot)), list(range(keys)))

    def test_arguments_by_name(self):
        rule = rule_of_orders(orders=((1, 0), (0, 1)))
        self.assertEqual(rule, (((), (0,)), ((1,), ())))
        self.assertEqual(order_at(slot=1, rule=rule), (0, 1))
        self.assertIsNone(ring_at(slot=1, rule=rule))
        self.assertIs(is_ordered(rule=rule), True)
        self.assertIs(is_rule(value=rule), True)
        self.assertIs(are_probes(value=((0,),)), True)
        self.assertEqual(farther_rule(probes=((0,), (0,))), (((1,), ()),))


class FartherRuleTest(unittest.TestCase):

    def check(self, probes):
        rule = farther_rule(probes)
        self.assertTrue(is_rule(rule))
        self.assertIs(is_ordered(rule), True)
        self.assertEqual((len(rule), len(rule[0])), (len(probes[0]), len(probes)))
        for slot, table in enumerate(rule):
            for a, b in itertools.permutations(range(len(probes)), 2):
                mine, others = probes[a].index(slot), probes[b].index(slot)
                self.assertEqual(b in table[a], mine > others or (mine == others and a < b))

    def test_probes_of_all_sizes(self):
        for keys, slots in itertools.product(SIZES, SIZES):
            self.check(some_probes(keys, slots))

    def test_the_same_probe_order_for_all(self):
        for keys, slots in itertools.product((1, 2, 3, 15, 16), SIZES):
            self.check((shuffled(slots, 6),) * keys)

    def test_the_same_probe_order_for_some(self):
        for keys, slots in itertools.product(SIZES, SIZES):
            self.check(tuple(linear(slots, key * key % slots) for key in range(keys)))
            self.check(tuple(shuffled(slots, key % 3) for key in range(keys)))

    def test_all_probes_of_three_keys_and_slots(self):
        for probes in itertools.product(itertools.permutations(range(3)), repeat=3):
            self.check(probes)
