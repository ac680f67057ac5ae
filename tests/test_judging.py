"""Judging, section 7 of the document, and guarantee (a)."""

import itertools
import unittest

from samelayout.errors import TooMany
from samelayout.inserting import layout_of
from samelayout.judging import (
    all_layouts, judge, shows_judgement, shows_layouts, shows_unlike, unlike, unlike_somewhere)
from samelayout.rules import are_probes, farther_rule, is_ordered, rule_of_orders
from tests.values import (
    SIZES, error_of, layout_by_words, mixed_rule, ordered_rule, orders_for, other_kinds, pair_count, parts_replaced,
    placements, reached_by_words, replaced, ringed_rule, rings_of, sets_of, shuffled, some_probes, some_rule,
    table_of_bits)

RINGED = (((1,), (2,), (0,)),) * 3
EQUAL = ((0, 1, 2),) * 3
THREE = [table_of_bits(3, bits) for bits in range(8)]


class AnyValueTest(unittest.TestCase):

    def check(self, function, values, expected):
        """A call whose last argument may be any value, the only one that could be changed."""
        before = repr(values[-1])
        found = function(*values)
        if found is not expected:
            self.fail(f"{found} for {values}")
        self.assertEqual(repr(values[-1]), before)


def settings(sizes, seeds):
    """Small settings, with rules of every kind, and probes that are alike or not."""
    for (keys, slots), seed in itertools.product(sizes, seeds):
        probes = some_probes(keys, slots, seed)
        crowded = tuple(shuffled(slots, f"{seed} {key % 2}") for key in range(keys))
        yield probes, ordered_rule(keys, slots, seed)
        yield probes, farther_rule(probes)
        yield probes, some_rule(keys, slots, seed)
        yield probes, mixed_rule(keys, slots, seed)
        yield crowded, mixed_rule(keys, slots, seed)
        yield (shuffled(slots, seed),) * keys, some_rule(keys, slots, seed)


def rules_of_all_sizes():
    for keys, slots in itertools.product(SIZES, SIZES):
        yield ordered_rule(keys, slots)
        yield some_rule(keys, slots)
        yield mixed_rule(keys, slots)
        if keys > 2:
            yield ringed_rule(keys, slots, (slots // 2,))
            yield ringed_rule(keys, slots, (0, slots - 1))


def ringed_slots(rule):
    return [slot for slot, table in enumerate(rule) if rings_of(table)]


class JudgeTest(unittest.TestCase):

    def check(self, rule):
        found = judge(rule)
        self.assertIs(type(found), tuple)
        self.assertEqual(judge(rule), found)
        if ringed_slots(rule):
            word, slot, ring = found
            self.assertEqual(word, "ring")
            self.assertIs(type(slot), int)
            self.assertIs(type(ring), tuple)
            self.assertIn(ring, rings_of(rule[slot]))
        else:
            word, orders = found
            self.assertEqual(word, "orders")
            self.assertEqual(repr(rule_of_orders(orders)), repr(rule))
        self.assertIs(shows_judgement(rule, found), True)

    def test_rules_of_all_sizes(self):
        for rule in rules_of_all_sizes():
            self.check(rule)

    def test_orders_of_all_sizes(self):
        for keys, slots in itertools.product(SIZES, SIZES):
            orders = orders_for(keys, slots, 7)
            self.assertEqual(repr(judge(rule_of_orders(orders))), repr(("orders", orders)))

    def test_all_tables_of_few_keys(self):
        for keys in range(1, 6):
            for bits in range(1 << pair_count(keys)):
                self.check((table_of_bits(keys, bits),))

    def test_all_rules_of_three_keys_and_few_slots(self):
        for slots in (1, 2, 3):
            for rule in itertools.product(THREE, repeat=slots):
                self.check(rule)

    def test_a_ring_at_one_slot_only(self):
        for keys, slots in itertools.product((3, 4, 9, 16), SIZES):
            for slot in range(slots):
                rule = ringed_rule(keys, slots, (slot,))
                self.check(rule)
                self.assertEqual(judge(rule)[:2], ("ring", slot))


class ShowsJudgementTest(AnyValueTest):

    def check_rule(self, rule, value, expected):
        self.check(shows_judgement, (rule, value), expected)

    def test_every_ring_at_every_slot_turned_round(self):
        for rule in rules_of_all_sizes():
            for slot, table in enumerate(rule):
                for a, b, c in rings_of(table)[:6]:
                    for ring in ((a, b, c), (b, c, a), (c, a, b)):
                        self.check_rule(rule, ("ring", slot, ring), True)
                    for ring in ((a, c, b), (c, b, a), (b, a, c), (a, b, b), (a, b), (a, b, c, a), (a, a, a)):
                        self.check_rule(rule, ("ring", slot, ring), False)

    def test_all_small_values_for_rules_of_three_keys(self):
        orders = list(itertools.permutations(range(3)))
        triples = list(itertools.product(range(-1, 4), repeat=3))
        for slots in (1, 2):
            for rule in itertools.product(THREE, repeat=slots):
                for chosen in itertools.product(orders, repeat=slots):
                    self.check_rule(rule, ("orders", chosen), rule_of_orders(chosen) == rule)
                for slot, ring in itertools.product(range(-slots - 1, slots + 1), triples):
                    expected = 0 <= slot < slots and ring in rings_of(rule[slot])
                    self.check_rule(rule, ("ring", slot, ring), expected)

    def test_orders_of_another_rule(self):
        for keys, slots in itertools.product(range(2, 17), SIZES):
            orders = orders_for(keys, slots, 8)
            rule = rule_of_orders(orders)
            self.check_rule(rule, ("orders", orders), True)
            for slot in {0, slots // 2, slots - 1}:
                order = orders[slot]
                swapped = (order[1], order[0]) + order[2:]
                self.check_rule(rule, ("orders", replaced(orders, slot, swapped)), False)
                self.check_rule(rule, ("orders", replaced(orders, slot, order[:-2] + (order[-1], order[-2]))), False)
                self.check_rule(rule, ("orders", replaced(orders, slot, order[:-1])), False)
                self.check_rule(rule, ("orders", replaced(orders, slot, order + (keys,))), False)
                self.check_rule(rule, ("orders", replaced(orders, slot, order[:-1] + order[:1])), False)
                self.check_rule(rule, ("orders", orders[:slot] + orders[slot + 1:]), False)
            self.check_rule(rule, ("orders", orders + orders[:1]), False)
            self.check_rule(rule, ("orders", ()), False)

    def test_orders_for_a_rule_with_a_ring(self):
        for keys, slots in itertools.product(range(3, 17), SIZES):
            for slot in {0, slots - 1}:
                rule = ringed_rule(keys, slots, (slot,), 9)
                self.check_rule(rule, ("orders", orders_for(keys, slots, 9)), False)
                orders = tuple(tuple(sorted(range(keys), key=lambda key: -len(table[key]))) for table in rule)
                self.check_rule(rule, ("orders", orders), False)

    def test_a_ring_for_an_ordered_rule(self):
        for keys, slots in itertools.product((3, 4, 16), SIZES):
            rule = ordered_rule(keys, slots)
            for slot, ring in itertools.product({0, slots - 1}, itertools.permutations(range(3))):
                self.check_rule(rule, ("ring", slot, ring), False)

    def test_slots_and_keys_that_there_are_not(self):
        for keys, slots in itertools.product((3, 5, 16), SIZES):
            rule = ringed_rule(keys, slots, tuple(range(slots)))
            for slot in (0, slots - 1):
                ring = rings_of(rule[slot])[0]
                self.check_rule(rule, ("ring", slot, ring), True)
                for wrong in (slot - slots, slots, slots + slot, -1, 10 ** 30):
                    self.check_rule(rule, ("ring", wrong, ring), False)
                for at in range(3):
                    for wrong in (ring[at] - keys, keys, ring[at] + keys, -1, 10 ** 30):
                        self.check_rule(rule, ("ring", slot, replaced(ring, at, wrong)), False)

    def test_parts_of_other_kinds(self):
        rules = [ordered_rule(keys, slots) for keys, slots in ((1, 1), (2, 2), (3, 2), (4, 3))]
        rules += [RINGED, RINGED[:1], ringed_rule(4, 2, (1,)), ringed_rule(16, 16, (0, 1))]
        for rule in rules:
            accepted = judge(rule)
            for value in parts_replaced(accepted):
                self.check_rule(rule, value, False)
            for at in range(len(accepted)):
                for value in other_kinds():
                    ringed = at == 1 and repr(value) in ringed_names(rule, accepted[-1])
                    self.check_rule(rule, replaced(accepted, at, value), ringed)
            for value in (accepted + (0,), accepted[:-1], accepted[1:], accepted[::-1], accepted + accepted):
                self.check_rule(rule, value, False)

    def test_bools_that_equal_the_numbers(self):
        self.check_rule(RINGED, ("ring", 0, (0, 1, 2)), True)
        for value in (("ring", False, (0, 1, 2)), ("ring", True, (0, 1, 2)), ("ring", 0, (False, 1, 2)),
                      ("ring", 0, (0, True, 2)), ("ring", 0, (False, True, 2))):
            self.check_rule(RINGED, value, False)
        rule = rule_of_orders(((1, 0),))
        self.check_rule(rule, ("orders", ((1, 0),)), True)
        for value in (("orders", ((True, 0),)), ("orders", ((1, False),)), ("orders", ((True, False),))):
            self.check_rule(rule, value, False)
        self.check_rule((((),),), ("orders", ((0,),)), True)
        self.check_rule((((),),), ("orders", ((False,),)), False)

    def test_values_of_other_kinds(self):
        for rule in (RINGED, (((),),), ordered_rule(3, 3), ordered_rule(16, 16), some_rule(16, 16)):
            for value in other_kinds():
                self.check_rule(rule, value, False)
            for word in ("orders", "ring", "", None):
                for value in other_kinds():
                    self.check_rule(rule, (word, value), False)
                    self.check_rule(rule, (word, 0, value), False)
                    ringed = word == "ring" and repr(value) in ringed_names(rule, (0, 1, 2))
                    self.check_rule(rule, (word, value, (0, 1, 2)), ringed)


def ringed_names(rule, ring):
    """The slots at which these keys are a ring, as they are written."""
    return [repr(slot) for slot, table in enumerate(rule) if ring in rings_of(table)]


class UnlikeSomewhereTest(unittest.TestCase):

    def check(self, rule):
        found = unlike_somewhere(rule)
        if len(rule) < 3 or not ringed_slots(rule):
            self.assertIsNone(found)
            return
        self.assertIs(type(found), tuple)
        probes, one, other = found
        self.assertTrue(are_probes(probes))
        self.assertEqual((len(probes), len(probes[0])), (len(rule[0]), len(rule)))
        for history in (one, other):
            self.assertIs(type(history), tuple)
            self.assertEqual(len(set(history)), 3)
            self.assertEqual(len(history), 3)
        self.assertEqual(set(one), set(other))
        self.assertNotEqual(layout_by_words(probes, rule, one), layout_by_words(probes, rule, other))
        self.assertIs(shows_unlike(probes, rule, (one, other)), True)

    def test_rules_of_all_sizes(self):
        for rule in rules_of_all_sizes():
            self.check(rule)

    def test_all_rules_of_three_keys_and_few_slots(self):
        for slots in (1, 2, 3):
            for rule in itertools.product(THREE, repeat=slots):
                self.check(rule)

    def test_a_ring_at_one_slot_only(self):
        for keys, slots in itertools.product((3, 4, 9, 16), SIZES):
            for slot in range(slots):
                self.check(ringed_rule(keys, slots, (slot,)))

    def test_one_and_two_slots(self):
        for slots in (1, 2):
            self.assertIsNone(unlike_somewhere(RINGED[:slots]))
            self.assertIsNone(unlike_somewhere(some_rule(16, slots)))
        self.assertIsNotNone(unlike_somewhere(RINGED))


class ShowsUnlikeTest(AnyValueTest):

    def by_words(self, probes, rule, one, other):
        for history in (one, other):
            if len(set(history)) != len(history) or len(history) > len(rule):
                return False
            if not all(0 <= key < len(probes) for key in history):
                return False
        if sorted(one) != sorted(other):
            return False
        return layout_by_words(probes, rule, one) != layout_by_words(probes, rule, other)

    def check_pair(self, probes, rule, one, other):
        expected = self.by_words(probes, rule, one, other)
        self.check(shows_unlike, (probes, rule, (one, other)), expected)
        return expected

    def test_all_pairs_of_histories_of_small_settings(self):
        shown = 0
        for probes, rule in settings(((3, 3), (4, 3), (4, 2), (2, 4)), range(4)):
            histories = [history for size in range(len(rule) + 1)
                         for history in itertools.permutations(range(len(probes)), size)]
            for one, other in itertools.product(histories, repeat=2):
                shown += self.check_pair(probes, rule, one, other)
        self.assertGreater(shown, 20)

    def test_all_short_tuples_beside_a_history(self):
        tuples = [keys for size in range(5) for keys in itertools.product(range(-1, 4), repeat=size)]
        self.assertTrue(self.check_pair(EQUAL, RINGED, (0, 1, 2), (1, 2, 0)))
        for one, other in itertools.product(((), (0,), (0, 1), (0, 1, 2), (1, 2, 0), (2, 1, 0)), tuples):
            self.check_pair(EQUAL, RINGED, one, other)
            self.check_pair(EQUAL, RINGED, other, one)

    def test_histories_of_settings_of_all_sizes(self):
        shown = 0
        for keys, slots in itertools.product(SIZES, SIZES):
            probes = (shuffled(slots, 5),) * keys
            for rule in (some_rule(keys, slots), ordered_rule(keys, slots)):
                one = shuffled(keys, 6)[:slots]
                shown += self.check_pair(probes, rule, one, tuple(one[at] for at in shuffled(len(one), 7)))
                shown += self.check_pair(probes, rule, one, one[::-1])
                self.assertFalse(self.check_pair(probes, rule, one, one))
        self.assertGreater(shown, 100)

    def test_unlike_keys(self):
        rule = (((1, 3), (2, 3), (0, 3), ()),) * 3
        probes = ((0, 1, 2),) * 4
        self.assertTrue(self.check_pair(probes, rule, (0, 1, 2), (1, 2, 0)))
        for other in ((0, 1, 3), (3, 1, 2), (1, 2), (0,), (), (1, 2, 0, 3), (1, 2, 2), (1, 1, 2)):
            self.assertFalse(self.check_pair(probes, rule, (0, 1, 2), other))
            self.assertFalse(self.check_pair(probes, rule, other, (0, 1, 2)))

    def test_a_key_twice_in_both(self):
        for one, other in (((0, 1, 2, 0), (0, 1, 2, 0)), ((0, 0), (0, 0)), ((0, 0, 1), (1, 0, 0)),
                           ((0, 1, 1), (1, 1, 0))):
            self.assertFalse(self.check_pair(EQUAL, RINGED, one, other))

    def test_more_keys_than_slots(self):
        for keys, slots in itertools.product(SIZES, SIZES):
            if keys > slots:
                for rule in (some_rule(keys, slots), ordered_rule(keys, slots)):
                    one = shuffled(keys, 1)
                    for many in range(slots + 1, keys + 1):
                        value = (one[:many], one[:many][::-1])
                        self.check(shows_unlike, (some_probes(keys, slots), rule, value), False)

    def test_keys_that_there_are_not(self):
        for wrong in (-1, -2, -3, 3, 4, 10 ** 30, -(10 ** 30)):
            for at in range(3):
                one, other = replaced((0, 1, 2), at, wrong), replaced((1, 2, 0), (at + 2) % 3, wrong)
                self.check(shows_unlike, (EQUAL, RINGED, (one, other)), False)

    def test_parts_of_other_kinds(self):
        accepted = ((0, 1, 2), (1, 2, 0))
        self.check(shows_unlike, (EQUAL, RINGED, accepted), True)
        for value in parts_replaced(accepted):
            self.check(shows_unlike, (EQUAL, RINGED, value), False)
        # Bools that equal the keys, in both histories.
        for value in (((False, 1, 2), (1, 2, False)), ((0, True, 2), (True, 2, 0)),
                      ((False, True, 2), (True, 2, False))):
            self.check(shows_unlike, (EQUAL, RINGED, value), False)
        for value in other_kinds():
            self.check(shows_unlike, (EQUAL, RINGED, (value, value)), False)
            for at in range(2):
                self.check(shows_unlike, (EQUAL, RINGED, replaced(accepted, at, value)), False)
                for key in range(3):
                    if repr(value) != repr(accepted[at][key]):
                        wrong = replaced(accepted, at, replaced(accepted[at], key, value))
                        self.check(shows_unlike, (EQUAL, RINGED, wrong), False)
        for value in (accepted + ((0, 1, 2),), accepted[:1], (), accepted + ((),), ((0, 1, 2, 1, 2, 0),)):
            self.check(shows_unlike, (EQUAL, RINGED, value), False)

    def test_values_of_other_kinds(self):
        for keys, slots in ((1, 1), (3, 3), (16, 16), (16, 1), (1, 16)):
            for value in other_kinds():
                self.check(shows_unlike, (some_probes(keys, slots), some_rule(keys, slots), value), False)


class SearchTest(unittest.TestCase):

    def check(self, probes, rule):
        """unlike and all_layouts beside all histories of all sets; returns the least number of unlike keys."""
        reached = reached_by_words(probes, rule)
        least = min((len(keys) for keys, layouts in reached.items() if len(layouts) > 1), default=None)
        pair, table = unlike(probes, rule), all_layouts(probes, rule)
        self.assertEqual((unlike(probes, rule), all_layouts(probes, rule)), (pair, table))
        if least is None:
            self.assertIsNone(pair)
            expected = tuple(sorted((keys, *layouts) for keys, layouts in reached.items()))
            self.assertEqual(repr(table), repr(expected))
            self.assertIs(shows_layouts(probes, rule, table), True)
        else:
            self.assertIsNone(table)
            self.check_pair(probes, rule, pair, least)
        return least

    def check_pair(self, probes, rule, pair, least):
        self.assertIs(type(pair), tuple)
        one, other = pair
        self.assertEqual((type(one), type(other)), (tuple, tuple))
        self.assertEqual((len(one), len(set(one))), (least, least))
        self.assertEqual(sorted(one), sorted(other))
        self.assertNotEqual(layout_by_words(probes, rule, one), layout_by_words(probes, rule, other))
        self.assertIs(shows_unlike(probes, rule, pair), True)

    def test_small_settings(self):
        sizes = ((1, 1), (1, 4), (4, 1), (2, 2), (3, 2), (5, 2), (2, 4), (3, 3), (4, 3), (3, 5), (4, 4), (5, 4), (6, 3))
        found = [self.check(probes, rule) for probes, rule in settings(sizes, range(12))]
        for least in (None, 3, 4):
            self.assertGreater(found.count(least), 10, least)

    def test_larger_settings(self):
        found = [self.check(probes, rule) for probes, rule in settings(((5, 5), (6, 4), (4, 7)), range(5))]
        self.assertGreater(len(set(found)), 2)

    def test_five_keys_are_needed(self):
        found = {self.check(some_probes(5, 5, seed), some_rule(5, 5, seed)) for seed in range(60)}
        self.assertTrue({None, 3, 4, 5} <= found, found)

    def test_all_rules_of_three_keys_and_slots(self):
        for rule in itertools.product(THREE, repeat=3):
            self.check(EQUAL, rule)
            self.check(((0, 1, 2), (0, 2, 1), (1, 0, 2)), rule)

    def test_ordered_rules_have_one_layout_with_all_probes(self):
        for rule in (ordered_rule(3, 3, 1), ordered_rule(3, 3, 2)):
            for probes in itertools.product(itertools.permutations(range(3)), repeat=3):
                self.assertIsNone(self.check(probes, rule))

    def test_eight_keys(self):
        probes = some_probes(8, 8)
        self.assertIsNone(self.check(some_probes(8, 5), ordered_rule(8, 5)))
        self.assertIsNotNone(self.check((shuffled(4, 0),) * 8, some_rule(8, 4)))
        table = all_layouts(probes, ordered_rule(8, 8))
        self.assertEqual([keys for keys, layout in table], sorted(sets_of(range(8), 8)))
        self.assertIsNone(unlike(probes, ordered_rule(8, 8)))
        for slots in (1, 2, 8, 16):
            for rule in (ordered_rule(8, slots), some_rule(8, slots), ringed_rule(8, slots, (0,))):
                pair, table = unlike(some_probes(8, slots), rule), all_layouts(some_probes(8, slots), rule)
                self.assertEqual([pair, table].count(None), 1)

    def test_nine_keys_and_more_are_too_many(self):
        for keys, slots in itertools.product([*range(9, 17), 17, 20], (1, 2, 3, 8, 9, 16, 17)):
            probes = some_probes(keys, slots)
            for rule in (ordered_rule(keys, slots), some_rule(keys, slots), ringed_rule(keys, slots, (0,))):
                self.assertEqual(error_of(unlike, probes, rule), (TooMany, (keys,)))
                self.assertEqual(error_of(all_layouts, probes, rule), (TooMany, (keys,)))

    def test_one_slot_and_one_key(self):
        self.assertEqual(all_layouts(((0,),), (((),),)), (((), (-1,)), ((0,), (0,))))
        rule = rule_of_orders(((2, 0, 1),))
        self.assertEqual(all_layouts(((0,),) * 3, rule), (((), (-1,)), ((0,), (0,)), ((1,), (1,)), ((2,), (2,))))
        self.assertEqual(all_layouts(((1, 0),), (((),),) * 2), (((), (-1, -1)), ((0,), (-1, 0))))

    def test_arguments_by_name(self):
        self.assertIsNone(all_layouts(rule=RINGED, probes=EQUAL))
        pair = unlike(rule=RINGED, probes=EQUAL)
        self.assertIs(shows_unlike(value=pair, rule=RINGED, probes=EQUAL), True)
        table = all_layouts(((0, 1),) * 2, ordered_rule(2, 2))
        self.assertIs(shows_layouts(value=table, rule=ordered_rule(2, 2), probes=((0, 1),) * 2), True)
        self.assertIs(shows_judgement(value=judge(rule=RINGED), rule=RINGED), True)
        self.assertEqual(len(unlike_somewhere(rule=RINGED)), 3)


def table_for(probes, rule):
    """The layouts of the ascending histories of all sets."""
    most = min(len(probes), len(rule))
    return tuple(sorted((keys, layout_of(probes, rule, keys)) for keys in sets_of(range(len(probes)), most)))


class ShowsLayoutsTest(AnyValueTest):

    def check_value(self, probes, rule, value, expected):
        self.check(shows_layouts, (probes, rule, value), expected)

    def test_accepts_exactly_if_there_are_no_unlike_histories(self):
        refused = 0
        for probes, rule in settings(((1, 1), (3, 2), (3, 3), (4, 3), (4, 4), (6, 3), (2, 5), (6, 6)), range(8)):
            self.check_value(probes, rule, table_for(probes, rule), unlike(probes, rule) is None)
            refused += unlike(probes, rule) is not None
        self.assertGreater(refused, 10)

    def test_no_value_if_there_are_unlike_histories(self):
        tried = 0
        for probes, rule in settings(((3, 3), (4, 3)), range(12)):
            if unlike(probes, rule) is not None:
                reached = reached_by_words(probes, rule)
                for layouts in itertools.product(*reached.values()):
                    tried += 1
                    self.check_value(probes, rule, tuple(sorted(zip(reached, layouts))), False)
        self.assertGreater(tried, 30)

    def test_exactly_one_of_all_values_for_two_keys_and_slots(self):
        sets = ((), (0,), (0, 1), (1,))
        layouts = list(itertools.product(range(-1, 2), repeat=2))
        for probes in itertools.product(((0, 1), (1, 0)), repeat=2):
            rule = ordered_rule(2, 2)
            values = [tuple(zip(sets, chosen)) for chosen in itertools.product(layouts, repeat=4)]
            found = [value for value in values if shows_layouts(probes, rule, value)]
            self.assertEqual(found, [all_layouts(probes, rule)])

    def test_entries_left_out_doubled_and_exchanged(self):
        for probes, rule in self.accepted_settings():
            table = table_for(probes, rule)
            self.check_value(probes, rule, table, True)
            for at in range(len(table)):
                self.check_value(probes, rule, table[:at] + table[at + 1:], False)
                self.check_value(probes, rule, table[:at] + table[at:at + 1] + table[at:], False)
                self.check_value(probes, rule, table + table[at:at + 1], False)
                for other in range(at):
                    swapped = replaced(replaced(table, at, table[other]), other, table[at])
                    self.check_value(probes, rule, swapped, False)
                    exchanged = replaced(table, at, (table[at][0], table[other][1]))
                    exchanged = replaced(exchanged, other, (table[other][0], table[at][1]))
                    self.check_value(probes, rule, exchanged, False)
            self.check_value(probes, rule, table[::-1], len(table) == 1)

    def accepted_settings(self):
        yield ((0,),), (((),),)
        yield ((1, 0),), (((),),) * 2
        yield ((0,),) * 2, ordered_rule(2, 1)
        yield some_probes(3, 2), ordered_rule(3, 2)
        yield some_probes(3, 3), ordered_rule(3, 3)
        yield some_probes(2, 4), ordered_rule(2, 4)
        yield ((0, 1),) * 3, RINGED[:2]
        yield ((0, 1, 2), (1, 2, 0), (2, 0, 1)), RINGED

    def test_one_layout_changed(self):
        for probes, rule in self.accepted_settings():
            table = table_for(probes, rule)
            for at, (keys, layout) in enumerate(table):
                for other in placements(keys, len(rule)):
                    self.check_value(probes, rule, replaced(table, at, (keys, other)), other == layout)
                for slot in range(len(rule)):
                    for key in range(-2, len(probes) + 1):
                        value = replaced(table, at, (keys, replaced(layout, slot, key)))
                        self.check_value(probes, rule, value, key == layout[slot])
                for other in (layout[:-1], layout + (-1,), (), layout + layout, (-1,) * len(rule), (0,) * len(rule)):
                    self.check_value(probes, rule, replaced(table, at, (keys, other)), other == layout)

    def test_one_set_changed(self):
        for probes, rule in self.accepted_settings():
            table = table_for(probes, rule)
            for at, (keys, layout) in enumerate(table):
                for other in (keys[::-1], keys + keys[-1:], keys + (len(probes),), (-1,) + keys, keys[1:], keys + (0,)):
                    if other != keys:
                        self.check_value(probes, rule, replaced(table, at, (other, layout)), False)

    def test_sets_of_more_keys_than_slots(self):
        for keys, slots in ((2, 1), (3, 1), (3, 2), (5, 3)):
            probes, rule = some_probes(keys, slots), ordered_rule(keys, slots)
            table = table_for(probes, rule)
            for more in sets_of(range(keys), keys):
                if len(more) > slots:
                    for layout in (table[-1][1], more[:slots], (-1,) * slots, more):
                        self.check_value(probes, rule, tuple(sorted(table + ((more, layout),))), False)

    def test_the_layouts_of_another_setting(self):
        for keys, slots in ((2, 2), (3, 3), (4, 3), (3, 5), (9, 3)):
            probes, rule = some_probes(keys, slots), ordered_rule(keys, slots)
            others = [(some_probes(keys, slots, 1), rule), (probes, ordered_rule(keys, slots, 1))]
            for more, longer in ((1, 0), (0, 1), (-1, 0)):
                size = (keys + more, slots + longer)
                others.append((some_probes(*size), ordered_rule(*size)))
            for setting in others:
                table, other = table_for(probes, rule), table_for(*setting)
                self.check_value(probes, rule, other, table == other)

    def test_every_key_of_a_set_is_asked(self):
        # The sets of three keys agree but for one of their keys.
        for last in range(3):
            a, b, c = last, (last + 1) % 3, (last + 2) % 3
            probes, rule = EQUAL, RINGED
            layouts = {layout_by_words(probes, rule, history) for history in itertools.permutations(range(3))}
            self.assertEqual(len(layouts), 3)
            table = replaced(table_for(probes, rule), 3, ((0, 1, 2), layout_by_words(probes, rule, (a, b, c))))
            self.check_value(probes, rule, table, False)

    def test_parts_of_other_kinds(self):
        for probes, rule in self.accepted_settings():
            table = table_for(probes, rule)
            for value in parts_replaced(table):
                self.check_value(probes, rule, value, False)
            for at, (keys, layout) in enumerate(table):
                for value in other_kinds():
                    self.check_value(probes, rule, replaced(table, at, value), False)
                    if repr(value) != repr(keys):
                        self.check_value(probes, rule, replaced(table, at, (value, layout)), False)
                    if repr(value) != repr(layout):
                        self.check_value(probes, rule, replaced(table, at, (keys, value)), False)
                for entry in ((keys,), (keys, layout, layout), (layout, keys), ()):
                    self.check_value(probes, rule, replaced(table, at, entry), entry == (keys, layout))

    def test_bools_that_equal_the_numbers(self):
        probes, rule = ((0, 1), (0, 1)), rule_of_orders(((1, 0), (0, 1)))
        self.check_value(probes, rule, (((), (-1, -1)), ((0,), (0, -1)), ((0, 1), (1, 0)), ((1,), (1, -1))), True)
        for value in ((((), (-1, -1)), ((False,), (0, -1)), ((0, 1), (1, 0)), ((1,), (1, -1))),
                      (((), (-1, -1)), ((0,), (False, -1)), ((0, 1), (1, 0)), ((1,), (1, -1))),
                      (((), (-1, -1)), ((0,), (0, -1)), ((0, True), (1, 0)), ((1,), (1, -1))),
                      (((), (-1, -1)), ((0,), (0, -1)), ((0, 1), (True, False)), ((1,), (1, -1))),
                      (((), (-1, -1)), ((0,), (0, -1)), ((0, 1), (1, 0)), ((True,), (1, -1)))):
            self.check_value(probes, rule, value, False)

    def test_values_of_other_kinds(self):
        for keys, slots in ((1, 1), (3, 3), (16, 16), (17, 17), (16, 1), (1, 16)):
            for rule in (ordered_rule(keys, slots), some_rule(keys, slots)):
                for value in other_kinds():
                    self.check_value(some_probes(keys, slots), rule, value, False)
                    self.check_value(some_probes(keys, slots), rule, (value,), False)

    def test_more_than_eight_keys(self):
        for keys, slots in ((9, 9), (10, 4), (9, 1), (11, 16), (16, 3), (16, 1), (16, 2), (18, 2)):
            probes, rule = some_probes(keys, slots), ordered_rule(keys, slots)
            table = table_for(probes, rule)
            self.check_value(probes, rule, table, True)
            for at in {0, 1, len(table) // 2, len(table) - 1}:
                self.check_value(probes, rule, table[:at] + table[at + 1:], False)
                worse = table[at][1][1:] + table[at][1][:1]
                self.check_value(probes, rule, replaced(table, at, (table[at][0], worse)), worse == table[at][1])
            self.check_value(probes, rule, list(table), False)

    def test_more_than_eight_keys_with_rings(self):
        for keys, slots in ((9, 9), (10, 4), (16, 3)):
            probes = (tuple(range(slots)),) * keys
            rule = ringed_rule(keys, slots, (0,))
            self.check_value(probes, rule, table_for(probes, rule), False)
        # Two keys have one layout whatever the rule is, so two slots do.
        for keys in (9, 16):
            probes, rule = some_probes(keys, 2), some_rule(keys, 2)
            self.assertFalse(is_ordered(rule))
            self.check_value(probes, rule, table_for(probes, rule), True)

    def test_sixteen_keys_and_slots(self):
        probes, rule = some_probes(16, 16), ordered_rule(16, 16)
        table = table_for(probes, rule)
        self.assertEqual(len(table), 65536)
        self.assertIs(shows_layouts(probes, rule, table), True)
        at = [keys for keys, layout in table].index(tuple(range(16)))
        layout = table[at][1]
        wrong = (layout[1], layout[0]) + layout[2:]
        self.assertIs(shows_layouts(probes, rule, replaced(table, at, (tuple(range(16)), wrong))), False)
        self.assertIs(shows_layouts(probes, rule, table[:-1]), False)
        equal = (tuple(range(16)),) * 16
        ringed = ringed_rule(16, 16, (15,))
        # The ring of keys is at the last slot that anybody asks: whoever comes there finds it empty.
        self.assertIs(shows_layouts(equal, ringed, table_for(equal, ringed)), True)
