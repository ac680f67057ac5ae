"""Inserting, section 6 of the document."""

import itertools
import unittest

from samelayout.errors import Full, Present
from samelayout.inserting import insert, layout_of
from samelayout.probes import linear
from samelayout.rules import farther_rule, is_ordered, rule_of_orders
from tests.values import (
    SIZES, error_of, insert_by_words, keys_of, mixed_rule, ordered_rule, ringed_rule, shuffled, some_probes, some_rule)


def settings(keys, slots):
    """Probes and rules, ordered ones and such with rings of keys."""
    probes = some_probes(keys, slots)
    crowded = tuple(shuffled(slots, key % 2) for key in range(keys))
    yield probes, ordered_rule(keys, slots)
    yield probes, some_rule(keys, slots)
    yield probes, farther_rule(probes)
    yield crowded, ordered_rule(keys, slots, 1)
    yield crowded, some_rule(keys, slots, 1)
    yield (linear(slots, slots - 1),) * keys, mixed_rule(keys, slots)
    if keys > 2:
        yield crowded, ringed_rule(keys, slots, (slots - 1,))


def histories(keys, slots):
    """Some histories as long as they may be."""
    most = min(keys, slots)
    for seed in range(3):
        yield shuffled(keys, f"history {seed}")[:most]


class InsertTest(unittest.TestCase):

    def check_history(self, probes, rule, history):
        """Every insert of a history, by the words of the document."""
        layout = (-1,) * len(rule)
        self.assertEqual(layout_of(probes, rule, ()), layout)
        for at, key in enumerate(history):
            before = repr((probes, rule, layout, history))
            found = insert(probes, rule, layout, key)
            self.assertEqual(repr(found), repr(insert_by_words(probes, rule, layout, key)))
            self.assertEqual(insert(probes, rule, layout, key), found)
            self.check_path(layout, key, *found)
            self.assertEqual(repr(layout_of(probes, rule, history[:at + 1])), repr(found[0]))
            self.assertEqual(repr((probes, rule, layout, history)), before)
            layout = found[0]

    def check_path(self, before, key, layout, path):
        """The path leads from one layout to the other: the key that each stay displaces is the one that stays next."""
        self.assertEqual(path[0][0], key)
        slots = list(before)
        for at, (staying, slot) in enumerate(path):
            displaced = slots[slot]
            slots[slot] = staying
            self.assertEqual(displaced, path[at + 1][0] if at + 1 < len(path) else -1)
        self.assertEqual(tuple(slots), layout)
        self.assertEqual(keys_of(layout), tuple(sorted(keys_of(before) + (key,))))

    def test_settings_of_all_sizes(self):
        for keys, slots in itertools.product(SIZES, SIZES):
            for probes, rule in settings(keys, slots):
                for history in histories(keys, slots):
                    self.check_history(probes, rule, history)

    def test_all_histories_of_small_settings(self):
        for keys, slots in itertools.product((1, 2, 3, 4), (1, 2, 3, 4)):
            for probes, rule in settings(keys, slots):
                for history in itertools.permutations(range(keys), min(keys, slots)):
                    self.check_history(probes, rule, history)

    def test_all_rules_of_three_keys_at_the_first_slot(self):
        for bits in itertools.product((False, True), repeat=3):
            beaten = [[], [], []]
            for (a, b), first in zip(((0, 1), (0, 2), (1, 2)), bits):
                beaten[a if first else b].append(b if first else a)
            rule = (tuple(tuple(row) for row in beaten),) + ordered_rule(3, 2)
            for history in itertools.permutations(range(3)):
                self.check_history(((0, 1, 2),) * 3, rule, history)

    def test_a_displaced_key_goes_on_behind_the_slot_that_it_had(self):
        # Key 1 would beat the key that is in its first slot by now.
        ring = ((1, 3), (2, 3), (0, 3), ())
        rule = (ring,) + rule_of_orders(((3, 2, 1, 0), (0, 1, 2, 3), (0, 1, 2, 3)))
        probes = ((0, 2, 1, 3), (0, 1, 3, 2), (0, 1, 2, 3), (1, 0, 2, 3))
        self.assertEqual(layout_of(probes, rule, (0, 1, 2)), (2, 1, 0, -1))
        self.assertEqual(insert(probes, rule, (2, 1, 0, -1), 3), ((2, 3, 0, 1), ((3, 1), (1, 3))))

    def test_the_strongest_key_stays_wherever_it_asks(self):
        rule = rule_of_orders(((2, 1, 0),) * 3)
        self.assertEqual(insert(((0, 1, 2),) * 3, rule, (1, 0, -1), 2), ((2, 1, 0), ((2, 0), (1, 1), (0, 2))))

    def test_the_weakest_key_stays_only_where_it_is_empty(self):
        rule = rule_of_orders(((2, 1, 0),) * 3)
        self.assertEqual(insert(((0, 1, 2),) * 3, rule, (2, 1, -1), 0), ((2, 1, 0), ((0, 2),)))

    def test_one_slot_and_one_key(self):
        self.assertEqual(insert(((0,),), (((),),), (-1,), 0), ((0,), ((0, 0),)))
        self.assertEqual(layout_of(((2, 0, 1),), (((),),) * 3, (0,)), (-1, -1, 0))
        self.assertEqual(layout_of(((0,),) * 3, rule_of_orders(((1, 0, 2),)), (2,)), (2,))

    def test_ordered_rules_have_one_layout(self):
        for keys, slots in itertools.product(SIZES, SIZES):
            for probes, rule in settings(keys, slots):
                if is_ordered(rule):
                    chosen = shuffled(keys, "chosen")[:slots]
                    found = {layout_of(probes, rule, tuple(chosen[at] for at in shuffled(len(chosen), seed)))
                             for seed in range(6)}
                    self.assertEqual(len(found), 1)

    def test_somewhat_more_keys_and_slots(self):
        for keys, slots in ((17, 17), (20, 18), (3, 24), (24, 3)):
            for probes, rule in settings(keys, slots):
                self.check_history(probes, rule, shuffled(keys, 1)[:min(keys, slots)])

    def test_arguments_by_name(self):
        probes, rule = ((0, 1), (0, 1)), rule_of_orders(((1, 0), (0, 1)))
        self.assertEqual(insert(key=1, layout=(0, -1), rule=rule, probes=probes), ((1, 0), ((1, 0), (0, 1))))
        self.assertEqual(layout_of(history=(0, 1), rule=rule, probes=probes), (1, 0))


class InsertErrorsTest(unittest.TestCase):

    def test_a_key_that_is_present(self):
        for keys, slots in itertools.product(SIZES, SIZES):
            for probes, rule in settings(keys, slots):
                history = shuffled(keys, 2)[:slots]
                for many in sorted({1, (len(history) + 1) // 2, len(history)}):
                    layout = layout_of(probes, rule, history[:many])
                    for key in history[:many]:
                        self.assertEqual(error_of(insert, probes, rule, layout, key), (Present, (key,)))

    def test_no_slot_is_empty(self):
        for slots in SIZES:
            for keys in range(slots + 1, 17):
                for probes, rule in settings(keys, slots):
                    history = shuffled(keys, 3)
                    layout = layout_of(probes, rule, history[:slots])
                    for key in history[slots:]:
                        self.assertEqual(error_of(insert, probes, rule, layout, key), (Full, ()))
                    # A key that is there is told first.
                    for key in history[:slots]:
                        self.assertEqual(error_of(insert, probes, rule, layout, key), (Present, (key,)))

    def test_the_last_empty_slot_is_filled(self):
        for slots in SIZES:
            for probes, rule in settings(16, slots):
                layout = layout_of(probes, rule, shuffled(16, 4)[:slots])
                self.assertNotIn(-1, layout)
                self.assertEqual(len(keys_of(layout)), slots)
