"""Stable layouts, section 8 of the document, guarantee (b) and the first sentence of (c)."""

import itertools
import unittest

from samelayout.errors import NotOrdered, TooMany
from samelayout.inserting import layout_of
from samelayout.probes import linear
from samelayout.rules import order_at, rule_of_orders
from samelayout.stable import best, each_earlier, each_later, is_stable, stable_layouts, worst
from tests.values import (
    SIZES, SMALL, blocks, error_of, keys_of, ordered_rule, ordered_settings, placements, rich_settings, ringed_rule,
    sets_of, shuffled, some_probes, some_rule, stable_by_words)


def index_of(probes, layout, key):
    return probes[key].index(layout.index(key))


class IsStableTest(unittest.TestCase):

    def test_all_layouts_of_small_settings(self):
        found = []
        for probes, rule in ordered_settings(SMALL, range(2)):
            for keys in sets_of(range(len(probes)), min(len(probes), len(rule))):
                for layout in placements(keys, len(rule)):
                    expected = stable_by_words(probes, rule, layout)
                    self.assertIs(is_stable(probes, rule, layout), expected, (probes, rule, layout))
                    found.append(expected)
        self.assertGreater(found.count(True), 500)
        self.assertGreater(found.count(False), 500)

    def test_layouts_of_histories_are_stable(self):
        for keys, slots in itertools.product(SIZES, SIZES):
            for probes, rule in ordered_settings(((keys, slots),), (0,)):
                history = shuffled(keys, 1)[:slots]
                for many in sorted({0, 1, len(history) // 2, len(history)}):
                    self.assertIs(is_stable(probes, rule, layout_of(probes, rule, history[:many])), True)

    def test_two_keys_exchanged(self):
        for slots in range(2, 17):
            probes = tuple(linear(slots, key) for key in range(slots))
            rule = rule_of_orders(tuple((slot, *(key for key in range(slots) if key != slot)) for slot in range(slots)))
            layout = tuple(range(slots))
            self.assertIs(is_stable(probes, rule, layout), True)
            for at in range(slots - 1):
                changed = list(layout)
                changed[at], changed[at + 1] = changed[at + 1], changed[at]
                self.assertIs(is_stable(probes, rule, tuple(changed)), False)

    def test_a_slot_ahead_is_empty(self):
        for slots in range(2, 17):
            probes, rule = (linear(slots, 0),), (((),),) * slots
            for slot in range(slots):
                layout = tuple(0 if at == slot else -1 for at in range(slots))
                self.assertIs(is_stable(probes, rule, layout), slot == 0)

    def test_the_empty_layout(self):
        for keys, slots in itertools.product(SIZES, SIZES):
            self.assertIs(is_stable(some_probes(keys, slots), ordered_rule(keys, slots), (-1,) * slots), True)


class StableLayoutsTest(unittest.TestCase):

    def check(self, probes, rule, keys):
        """All stable layouts of these keys, and the best and the worst one, beside all layouts of them."""
        expected = sorted(layout for layout in placements(keys, len(rule)) if stable_by_words(probes, rule, layout))
        found = stable_layouts(probes, rule, keys)
        self.assertEqual(repr(found), repr(tuple(expected)))
        self.check_ends(probes, rule, keys, expected)
        return len(found)

    def check_ends(self, probes, rule, keys, expected):
        first, last = best(probes, rule, keys), worst(probes, rule, keys)
        self.assertEqual((type(first), type(last)), (tuple, tuple))
        self.assertIn(first, expected)
        self.assertIn(last, expected)
        self.assertEqual(repr(first), repr(layout_of(probes, rule, keys[::-1])))
        for key in keys:
            indexes = [index_of(probes, layout, key) for layout in expected]
            self.assertEqual(index_of(probes, first, key), min(indexes))
            self.assertEqual(index_of(probes, last, key), max(indexes))
        for slot in range(len(rule)):
            holders = {layout[slot] for layout in expected}
            if -1 in holders:
                self.assertEqual(holders, {-1})
            else:
                places = [order_at(rule, slot).index(key) for key in holders]
                self.assertEqual(order_at(rule, slot).index(first[slot]), max(places))
                self.assertEqual(order_at(rule, slot).index(last[slot]), min(places))

    def test_all_sets_of_small_settings(self):
        found = []
        for probes, rule in ordered_settings(SMALL, range(6)):
            for keys in sets_of(range(len(probes)), min(len(probes), len(rule))):
                found.append(self.check(probes, rule, keys))
        self.assertGreater(len([many for many in found if many > 1]), 50)
        self.assertIn(3, found)

    def test_settings_with_several_stable_layouts(self):
        for probes, rule in list(rich_settings())[:-1]:
            for keys in sets_of(range(len(probes)), len(probes)):
                self.check(probes, rule, keys)

    def test_how_many_there_are(self):
        for sizes, more, many in (((2,), 0, 2), ((7,), 0, 7), ((7,), 9, 7), ((2, 2, 2), 1, 8), ((2, 5), 0, 10),
                                  ((3, 4), 2, 12), ((2, 2, 3), 0, 12), ((1,) * 7, 9, 1)):
            probes, rule = blocks(sizes, more)
            keys = tuple(range(len(probes)))
            found = stable_layouts(probes, rule, keys)
            self.assertEqual(len(found), many)
            self.assertEqual(list(found), sorted(set(found)))
            for layout in found:
                self.assertTrue(stable_by_words(probes, rule, layout))
                self.assertEqual(keys_of(layout), keys)
            self.check_ends(probes, rule, keys, found)

    def test_no_keys(self):
        for keys, slots in itertools.product(SIZES, SIZES):
            probes, rule, empty = some_probes(keys, slots), ordered_rule(keys, slots), (-1,) * slots
            self.assertEqual(stable_layouts(probes, rule, ()), (empty,))
            self.assertEqual(best(probes, rule, ()), empty)
            self.assertEqual(worst(probes, rule, ()), empty)

    def test_one_key(self):
        for keys, slots in itertools.product(SIZES, SIZES):
            probes, rule = some_probes(keys, slots), ordered_rule(keys, slots)
            for key in range(keys):
                layout = tuple(key if slot == probes[key][0] else -1 for slot in range(slots))
                self.assertEqual(stable_layouts(probes, rule, (key,)), (layout,))
                self.assertEqual(best(probes, rule, (key,)), layout)
                self.assertEqual(worst(probes, rule, (key,)), layout)

    def test_one_slot(self):
        for keys in SIZES:
            probes, rule = ((0,),) * keys, ordered_rule(keys, 1)
            self.assertEqual(stable_layouts(probes, rule, (keys - 1,)), ((keys - 1,),))
            self.assertEqual(worst(probes, rule, (keys // 2,)), (keys // 2,))

    def test_best_and_worst_of_all_sizes(self):
        for keys, slots in itertools.product(SIZES, SIZES):
            for probes, rule in ordered_settings(((keys, slots),), (0,)):
                chosen = shuffled(keys, 2)[:slots]
                for many in sorted({1, len(chosen) // 2, len(chosen)}):
                    self.check_pair(probes, rule, tuple(sorted(chosen[:many])))

    def check_pair(self, probes, rule, keys):
        before = repr((probes, rule, keys))
        first, last = best(probes, rule, keys), worst(probes, rule, keys)
        self.assertEqual(first, layout_of(probes, rule, keys))
        self.assertTrue(stable_by_words(probes, rule, first))
        self.assertTrue(stable_by_words(probes, rule, last))
        self.assertEqual((keys_of(first), keys_of(last)), (keys, keys))
        self.assertEqual([key == -1 for key in first], [key == -1 for key in last])
        for key in keys:
            self.assertLessEqual(index_of(probes, first, key), index_of(probes, last, key))
        self.assertEqual(repr((probes, rule, keys)), before)

    def test_worst_of_sixteen_keys_and_slots(self):
        for sizes in ((16,), (2,) * 8, (3, 5, 8), (1, 15), (4, 4, 4, 4)):
            probes, rule = blocks(sizes)
            keys = tuple(range(16))
            first, last = best(probes, rule, keys), worst(probes, rule, keys)
            lengths = sorted(size for size in sizes for key in range(size))
            self.assertEqual([index_of(probes, first, key) for key in keys], [0] * 16)
            self.assertEqual(sorted(index_of(probes, last, key) + 1 for key in keys), lengths)
            # The worst layout is the one that all slots like best.
            for slot, key in enumerate(last):
                self.assertEqual(order_at(rule, slot)[0], key)

    def test_a_key_more(self):
        for keys, slots in itertools.product(SIZES, SIZES):
            for probes, rule in ordered_settings(((keys, slots),), (1,)):
                history = shuffled(keys, 3)[:slots]
                for many in range(len(history)):
                    fewer = best(probes, rule, tuple(sorted(history[:many])))
                    more = best(probes, rule, tuple(sorted(history[:many + 1])))
                    for key in history[:many]:
                        self.assertLessEqual(index_of(probes, fewer, key), index_of(probes, more, key))
                    for slot, key in enumerate(fewer):
                        if key != -1:
                            self.assertNotIn(more[slot], (-1, *rule[slot][key]))

    def test_seven_keys_are_not_too_many(self):
        for keys, slots in ((7, 7), (7, 16), (16, 7), (16, 16), (8, 8)):
            probes, rule = some_probes(keys, slots), ordered_rule(keys, slots)
            chosen = tuple(sorted(shuffled(keys, 4)[:7]))
            found = stable_layouts(probes, rule, chosen)
            self.assertIn(best(probes, rule, chosen), found)
            self.assertIn(worst(probes, rule, chosen), found)
            for layout in found:
                self.assertTrue(stable_by_words(probes, rule, layout))
                self.assertEqual(keys_of(layout), chosen)

    def test_eight_keys_and_more_are_too_many(self):
        for keys, slots in itertools.product([*range(8, 17), 17], [*range(8, 17), 17]):
            probes, rule = some_probes(keys, slots), ordered_rule(keys, slots)
            for many in range(8, min(keys, slots) + 1):
                chosen = tuple(sorted(shuffled(keys, 5)[:many]))
                self.assertEqual(error_of(stable_layouts, probes, rule, chosen), (TooMany, (many,)))
                self.assertIsNone(error_of(best, probes, rule, chosen))
                self.assertIsNone(error_of(worst, probes, rule, chosen))

    def test_arguments_by_name(self):
        probes, rule = ((0, 1), (0, 1)), rule_of_orders(((1, 0), (0, 1)))
        self.assertEqual(stable_layouts(keys=(0, 1), rule=rule, probes=probes), ((1, 0),))
        self.assertEqual(best(keys=(0, 1), rule=rule, probes=probes), (1, 0))
        self.assertEqual(worst(keys=(0,), rule=rule, probes=probes), (0, -1))
        self.assertIs(is_stable(layout=(0, 1), rule=rule, probes=probes), False)
        self.assertEqual(each_earlier(other=(1, 0), one=(1, 0), probes=probes), (1, 0))
        self.assertEqual(each_later(other=(1, 0), one=(1, 0), probes=probes), (1, 0))


class NotOrderedTest(unittest.TestCase):

    def check(self, probes, rule, least):
        slots = len(rule)
        eight = tuple(range(min(slots, len(probes))))
        for keys in ((), (0,), eight):
            for function in (best, worst, stable_layouts):
                self.assertEqual(error_of(function, probes, rule, keys), (NotOrdered, (least,)))
        for layout in ((-1,) * slots, (0,) + (-1,) * (slots - 1), (-1,) * (slots - 1) + (0,)):
            self.assertEqual(error_of(is_stable, probes, rule, layout), (NotOrdered, (least,)))

    def test_a_ring_at_one_slot(self):
        for keys, slots in itertools.product((3, 4, 9, 16), SIZES):
            for slot in range(slots):
                self.check(some_probes(keys, slots), ringed_rule(keys, slots, (slot,)), slot)

    def test_rings_at_several_slots(self):
        for keys, slots in itertools.product((3, 5, 16), range(2, 17)):
            for least in range(slots - 1):
                self.check(some_probes(keys, slots), ringed_rule(keys, slots, (least, slots - 1)), least)
                ringed = tuple(range(least, slots))[::-1]
                self.check(some_probes(keys, slots), ringed_rule(keys, slots, ringed), least)

    def test_ahead_of_too_many(self):
        self.assertEqual(error_of(stable_layouts, some_probes(8, 8), ringed_rule(8, 8, (7,)), tuple(range(8))),
                         (NotOrdered, (7,)))
        self.assertEqual(error_of(stable_layouts, some_probes(16, 16), some_rule(16, 16), tuple(range(16)))[0],
                         NotOrdered)


class EachTest(unittest.TestCase):

    def check(self, probes, rule, one, other):
        before = repr((probes, one, other))
        earlier, later = each_earlier(probes, one, other), each_later(probes, one, other)
        for layout in (earlier, later):
            self.assertIs(type(layout), tuple)
            self.assertEqual((len(layout), keys_of(layout)), (len(one), keys_of(one)))
            self.assertTrue(stable_by_words(probes, rule, layout))
            self.assertIs(is_stable(probes, rule, layout), True)
        for key in keys_of(one):
            indexes = [index_of(probes, layout, key) for layout in (one, other)]
            self.assertEqual(index_of(probes, earlier, key), min(indexes))
            self.assertEqual(index_of(probes, later, key), max(indexes))
        self.assertEqual(repr((probes, one, other)), before)

    def test_all_pairs_of_small_settings(self):
        for probes, rule in ordered_settings(SMALL, range(8)):
            for keys in sets_of(range(len(probes)), min(len(probes), len(rule))):
                for one, other in itertools.product(stable_layouts(probes, rule, keys), repeat=2):
                    self.check(probes, rule, one, other)

    def test_all_pairs_of_several_stable_layouts(self):
        unlike = 0
        for probes, rule in rich_settings():
            found = stable_layouts(probes, rule, tuple(range(len(probes))))
            for one, other in itertools.product(found, repeat=2):
                self.check(probes, rule, one, other)
                unlike += each_earlier(probes, one, other) not in (one, other)
        self.assertGreater(unlike, 10)

    def test_sixteen_keys_and_slots(self):
        for sizes in ((16,), (2,) * 8, (3, 5, 8)):
            probes, rule = blocks(sizes)
            keys = tuple(range(16))
            first, last = best(probes, rule, keys), worst(probes, rule, keys)
            self.check(probes, rule, first, last)
            self.assertEqual((each_earlier(probes, last, first), each_later(probes, last, first)), (first, last))

    def test_layouts_with_empty_slots(self):
        probes, rule = blocks((2, 2), 3)
        keys = tuple(range(4))
        first, last = best(probes, rule, keys), worst(probes, rule, keys)
        self.assertEqual(first.count(-1), 3)
        self.assertEqual((each_earlier(probes, first, last), each_later(probes, first, last)), (first, last))
        self.assertEqual(each_later(((0, 1),), (-1, -1), (-1, -1)), (-1, -1))

    def test_one_slot(self):
        self.assertEqual(each_earlier(((0,),), (0,), (0,)), (0,))
        self.assertEqual(each_later(((0,),), (-1,), (-1,)), (-1,))
