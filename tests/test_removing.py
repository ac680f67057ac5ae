"""Removing and looking up, section 10 of the document, and what guarantees (c) and (d) say of them."""

import itertools
import random
import unittest

from samelayout.errors import Absent, NotOrdered
from samelayout.inserting import insert
from samelayout.removing import fill, look_up, remove
from samelayout.rules import farther_rule, order_at, rule_of_orders
from samelayout.stable import best, is_stable, worst
from tests.values import (
    SIZES, blocks, error_of, insert_by_words, keys_of, large_settings, layout_by_words, layouts_on_the_way,
    ordered_rule, ordered_settings, ringed_rule, shuffled, small_layouts, some_probes, some_rule, stable_by_words)

PROBES = ((0, 1, 2), (0, 1, 2), (1, 0, 2))
RULE = rule_of_orders(((0, 2, 1), (1, 2, 0), (0, 1, 2)))


def wanted_by(probes, rule, where, slot):
    """The strongest of the keys that have the slot ahead of their own one, or None."""
    for key in order_at(rule, slot):
        if key in where and probes[key].index(slot) < probes[key].index(where[key]):
            return key
    return None


def fill_by_words(probes, rule, layout, key):
    """What fill returns, by the words of section 10."""
    where = {held: slot for slot, held in enumerate(layout) if held != -1}
    empty = where.pop(key)
    path = []
    while (moving := wanted_by(probes, rule, where, empty)) is not None:
        former = where[moving]
        path.append((moving, former, empty))
        where[moving], empty = empty, former
    slots = {slot: held for held, slot in where.items()}
    return tuple(slots.get(slot, -1) for slot in range(len(layout))), tuple(path)


def look_up_by_words(probes, rule, layout, key):
    """What look_up returns, by the words of section 10."""
    left = list(probes[key])
    reads = 0
    while left:
        slot = left.pop(0)
        reads += 1
        if layout[slot] == key:
            return slot, reads
        if layout[slot] == -1 or layout[slot] in rule[slot][key]:
            return -1, reads
    return -1, reads


def reads_until_it_stays(probes, rule, layout, key):
    """How many slots are looked at until an insert of an absent key lets it stay, or all if there is no such slot."""
    if -1 in layout:
        stays = insert_by_words(probes, rule, layout, key)[1]
        return probes[key].index(stays[0][1]) + 1
    beaten = [at for at, slot in enumerate(probes[key]) if layout[slot] in rule[slot][key]]
    return min(beaten) + 1 if beaten else len(layout)


def sized_settings(seeds):
    """Ordered settings of 1 to 16 keys and slots."""
    for keys, slots in itertools.product(SIZES, SIZES):
        yield from ordered_settings(((keys, slots),), seeds)


def liking_late(keys, slots, seed):
    """Probes, and the rule by which the slots like those keys best that want them late."""
    probes = some_probes(keys, slots, f"late {seed}")
    return probes, farther_rule(probes)


class FillTest(unittest.TestCase):

    def check(self, probes, rule, layout, key):
        before = repr((probes, rule, layout, key))
        found = fill(probes, rule, layout, key)
        self.assertEqual(repr(found), repr(fill_by_words(probes, rule, layout, key)))
        self.assertEqual(fill(probes, rule, layout, key), found)
        filled, path = found
        self.assertTrue(stable_by_words(probes, rule, filled))
        self.assertIs(is_stable(probes, rule, filled), True)
        self.assertEqual(keys_of(filled), tuple(other for other in keys_of(layout) if other != key))
        self.check_path(probes, layout, key, filled, path)
        self.assertEqual(repr((probes, rule, layout, key)), before)
        return len(path)

    def check_path(self, probes, layout, key, filled, path):
        """Each move fills the slot that the one ahead of it left, and gives its key an earlier slot."""
        slots = list(layout)
        empty = slots.index(key)
        slots[empty] = -1
        for moved, former, new in path:
            self.assertEqual((new, slots[former], slots[new]), (empty, moved, -1))
            self.assertLess(probes[moved].index(new), probes[moved].index(former))
            slots[former], slots[new] = -1, moved
            empty = former
        self.assertEqual(tuple(slots), filled)

    def test_all_stable_layouts_of_small_settings(self):
        moves = [self.check(probes, rule, layout, key) for probes, rule, layout in small_layouts()
                 for key in keys_of(layout)]
        self.assertGreater(len([many for many in moves if many == 0]), 100)
        self.assertGreater(len([many for many in moves if many > 1]), 100)

    def test_stable_layouts_of_large_settings(self):
        moves = []
        for probes, rule, keys in large_settings():
            for layout in layouts_on_the_way(probes, rule, keys):
                moves += [self.check(probes, rule, layout, key) for key in keys]
        self.assertGreater(max(moves), 8)

    def test_best_layouts_of_all_sizes(self):
        for probes, rule in sized_settings((0,)):
            keys = tuple(sorted(shuffled(len(probes), "fill")[:len(rule)]))
            layout = best(probes, rule, keys)
            for key in keys:
                self.check(probes, rule, layout, key)

    def test_one_key_behind_another_until_none_is_left(self):
        for keys, slots in ((16, 16), (16, 9), (9, 16), (5, 5)):
            for seed in range(8):
                probes, rule = liking_late(keys, slots, seed)
                history = shuffled(keys, seed)[:slots]
                layout = best(probes, rule, tuple(sorted(history)))
                for key in history:
                    self.check(probes, rule, layout, key)
                    layout = fill(probes, rule, layout, key)[0]
                self.assertEqual(layout, (-1,) * slots)

    def test_a_key_may_move_twice(self):
        found = 0
        for seed in range(40):
            probes, rule = some_probes(6, 6, seed), ordered_rule(6, 6, seed)
            layout = worst(probes, rule, tuple(range(6)))
            for key in range(6):
                self.check(probes, rule, layout, key)
                moved = [move[0] for move in fill(probes, rule, layout, key)[1]]
                found += len(set(moved)) < len(moved)
        self.assertGreater(found, 5)

    def test_the_strongest_moves_not_the_one_that_wants_it_most(self):
        probes = ((0, 1, 2, 3), (0, 2, 1, 3), (1, 0, 3, 2), (1, 0, 2, 3))
        rule = rule_of_orders(((0, 2, 1, 3), (3, 0, 1, 2), (0, 1, 2, 3), (0, 1, 2, 3)))
        self.assertEqual(fill(probes, rule, (0, 3, 1, 2), 0), ((2, 3, 1, -1), ((2, 3, 0),)))
        self.assertEqual(fill(probes, rule, (0, 3, 1, 2), 3), ((0, 2, 1, -1), ((2, 3, 1),)))

    def test_one_slot_and_the_only_key(self):
        self.assertEqual(fill(((0,),), (((),),), (0,), 0), ((-1,), ()))
        self.assertEqual(fill(((1, 0),), (((),),) * 2, (-1, 0), 0), ((-1, -1), ()))


class RemoveTest(unittest.TestCase):

    def check(self, probes, rule, layout, key):
        before = repr((probes, rule, layout, key))
        found = remove(probes, rule, layout, key)
        others = tuple(other for other in keys_of(layout) if other != key)
        self.assertEqual(repr(found), repr(layout_by_words(probes, rule, others)))
        self.assertEqual(found, best(probes, rule, others))
        self.assertEqual(remove(probes, rule, layout, key), found)
        self.check_fewer(probes, rule, layout, key, found)
        self.assertEqual(repr((probes, rule, layout, key)), before)
        return found

    def check_fewer(self, probes, rule, layout, key, fewer):
        """What (c) says of a key more: no key has an earlier slot, no slot a key that its former one beats."""
        for other in keys_of(fewer):
            self.assertLessEqual(probes[other].index(fewer.index(other)), probes[other].index(layout.index(other)))
        for slot, held in enumerate(fewer):
            if held != -1:
                self.assertNotIn(layout[slot], (-1, *rule[slot][held]))

    def remove_all(self, probes, rule, history, seed):
        """All keys, in some order; how often filling alone would not have been enough."""
        layout = best(probes, rule, tuple(sorted(history)))
        short = 0
        for at in shuffled(len(history), seed):
            after = self.check(probes, rule, layout, history[at])
            short += fill(probes, rule, layout, history[at])[0] != after
            layout = after
        self.assertEqual(layout, (-1,) * len(rule))
        return short

    def test_all_keys_of_settings_of_all_sizes(self):
        for probes, rule in sized_settings((3,)):
            self.remove_all(probes, rule, shuffled(len(probes), "remove")[:len(rule)], "orders")

    def test_filling_alone_is_not_enough(self):
        short = 0
        for keys, slots in itertools.product(SIZES, SIZES):
            probes, rule = liking_late(keys, slots, 1)
            short += self.remove_all(probes, rule, shuffled(keys, "late")[:slots], 1)
        for keys, slots in ((16, 16), (16, 8), (8, 8), (5, 5)):
            for seed in range(25):
                probes, rule = liking_late(keys, slots, seed)
                short += self.remove_all(probes, rule, shuffled(keys, seed)[:slots], seed)
        self.assertGreater(short, 50)

    def test_small_settings_in_all_orders(self):
        for keys, slots in ((1, 1), (2, 2), (3, 3), (4, 3), (3, 4), (4, 4)):
            for probes, rule in ordered_settings(((keys, slots),), range(4)):
                most = min(keys, slots)
                for history in itertools.permutations(range(keys), most):
                    layout = best(probes, rule, tuple(sorted(history)))
                    for key in history:
                        layout = self.check(probes, rule, layout, key)

    def test_settings_with_several_stable_layouts(self):
        for probes, rule, keys in large_settings():
            self.remove_all(probes, rule, keys, "rich")

    def test_inserts_and_removals_in_random_orders(self):
        for keys, slots in itertools.product((1, 2, 3, 5, 8, 13, 16), repeat=2):
            for probes, rule in [*ordered_settings(((keys, slots),), (5,)), liking_late(keys, slots, 5)]:
                self.go_on(probes, rule, random.Random(f"{keys} {slots}"))

    def go_on(self, probes, rule, choice):
        """Inserts and removals; behind each one the layout is that of the set alone."""
        layout = (-1,) * len(rule)
        present = set()
        for step in range(30):
            key = choice.randrange(len(probes))
            if key in present:
                layout = self.check(probes, rule, layout, key)
                present.remove(key)
            elif len(present) < len(rule):
                layout = insert(probes, rule, layout, key)[0]
                present.add(key)
            self.assertEqual(layout, layout_by_words(probes, rule, tuple(sorted(present, reverse=True))))

    def test_one_slot_and_the_only_key(self):
        self.assertEqual(remove(((0,),), (((),),), (0,), 0), (-1,))
        self.assertEqual(remove(((1, 0),), (((),),) * 2, (-1, 0), 0), (-1, -1))


class LookUpTest(unittest.TestCase):

    def check(self, probes, rule, layout, key):
        before = repr((probes, rule, layout, key))
        found = look_up(probes, rule, layout, key)
        self.assertEqual(repr(found), repr(look_up_by_words(probes, rule, layout, key)))
        self.assertEqual(look_up(probes, rule, layout, key), found)
        slot, reads = found
        if key in layout:
            self.assertEqual(slot, layout.index(key))
            self.assertEqual(reads, probes[key].index(slot) + 1)
        else:
            self.assertEqual(slot, -1)
            self.assertEqual(reads, reads_until_it_stays(probes, rule, layout, key))
        self.assertEqual(repr((probes, rule, layout, key)), before)
        return found

    def test_every_key_of_settings_of_all_sizes(self):
        for probes, rule in sized_settings((7,)):
            history = shuffled(len(probes), "look up")[:len(rule)]
            for many in {0, 1, len(history) // 2, len(history)}:
                layout = best(probes, rule, tuple(sorted(history[:many])))
                for key in range(len(probes)):
                    self.check(probes, rule, layout, key)

    def test_all_sets_of_keys_of_small_settings(self):
        for keys, slots in ((1, 1), (3, 2), (4, 4), (5, 3), (4, 6)):
            for probes, rule in ordered_settings(((keys, slots),), range(3)):
                for many in range(min(keys, slots) + 1):
                    for chosen in itertools.combinations(range(keys), many):
                        layout = best(probes, rule, chosen)
                        for key in range(keys):
                            self.check(probes, rule, layout, key)

    def test_an_empty_layout(self):
        for keys, slots in itertools.product(SIZES, SIZES):
            probes, rule = some_probes(keys, slots), ordered_rule(keys, slots)
            for key in range(keys):
                self.assertEqual(look_up(probes, rule, (-1,) * slots, key), (-1, 1))

    def test_all_slots_are_read_in_vain(self):
        for slots in SIZES:
            probes = ((*range(slots),),) * (slots + 1)
            rule = rule_of_orders((tuple(range(slots + 1)),) * slots)
            layout = tuple(range(slots))
            self.assertEqual(self.check(probes, rule, layout, slots), (-1, slots))
            self.assertEqual(self.check(probes, rule, layout, slots - 1), (slots - 1, slots))

    def test_a_key_behind_one_that_it_does_not_beat(self):
        probes, rule = ((0, 1),) * 3, rule_of_orders(((0, 1, 2), (2, 1, 0)))
        self.assertEqual(self.check(probes, rule, (0, 1), 1), (1, 2))
        self.assertEqual(self.check(probes, rule, (0, 1), 2), (-1, 2))
        self.assertEqual(self.check(probes, rule, (1, 2), 0), (-1, 1))


class ErrorsTest(unittest.TestCase):

    def test_absent_keys(self):
        for probes, rule in sized_settings((4,)):
            history = shuffled(len(probes), "absent")
            for many in {0, 1, len(history) // 2, min(len(history) - 1, len(rule))}:
                if many <= len(rule):
                    layout = best(probes, rule, tuple(sorted(history[:many])))
                    for key in history[many:]:
                        self.assertEqual(error_of(fill, probes, rule, layout, key), (Absent, (key,)))
                        self.assertEqual(error_of(remove, probes, rule, layout, key), (Absent, (key,)))

    def check_not_ordered(self, rule, least):
        keys, slots = len(rule[0]), len(rule)
        probes = some_probes(keys, slots)
        taken = tuple(keys - 1 if slot == probes[keys - 1][0] else -1 for slot in range(slots))
        for function, layout, key in itertools.product((fill, remove, look_up), (taken, (-1,) * slots), (0, keys - 1)):
            self.assertEqual(error_of(function, probes, rule, layout, key), (NotOrdered, (least,)))

    def test_a_ring_of_keys_at_one_slot(self):
        for keys, slots in itertools.product((3, 4, 9, 16), SIZES):
            for slot in range(slots):
                self.check_not_ordered(ringed_rule(keys, slots, (slot,)), slot)

    def test_rings_of_keys_at_several_slots(self):
        for keys, slots in itertools.product((3, 5, 16), range(2, 17)):
            for least in range(slots - 1):
                self.check_not_ordered(ringed_rule(keys, slots, (least, slots - 1)), least)
                self.check_not_ordered(ringed_rule(keys, slots, tuple(range(least, slots))[::-1]), least)

    def test_rings_of_keys_everywhere(self):
        self.check_not_ordered(some_rule(16, 16), 0)

    def test_ahead_of_absent(self):
        rule = ringed_rule(3, 3, (2,))
        for function in (fill, remove):
            self.assertEqual(error_of(function, PROBES, rule, (0, 1, -1), 2), (NotOrdered, (2,)))
            self.assertEqual(error_of(function, PROBES, RULE, (0, 1, -1), 2), (Absent, (2,)))

    def test_arguments_by_name(self):
        self.assertEqual(fill(key=0, layout=(0, 1, 2), rule=RULE, probes=PROBES), ((2, 1, -1), ((2, 2, 0),)))
        self.assertEqual(remove(key=0, layout=(0, 1, 2), rule=RULE, probes=PROBES), (1, 2, -1))
        self.assertEqual(look_up(key=2, layout=(0, 1, 2), rule=RULE, probes=PROBES), (2, 3))

    def test_somewhat_more_keys_and_slots(self):
        probes, rule = blocks((9, 8), 3)
        layout = best(probes, rule, tuple(range(17)))
        for key in range(17):
            self.assertEqual(fill(probes, rule, layout, key), fill_by_words(probes, rule, layout, key))
            others = tuple(other for other in range(17) if other != key)
            self.assertEqual(remove(probes, rule, layout, key), layout_by_words(probes, rule, others))
            self.assertEqual(look_up(probes, rule, layout, key), look_up_by_words(probes, rule, layout, key))
