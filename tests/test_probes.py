"""Probe orders, section 4 of the document."""

import copy
import math
import unittest

from samelayout.errors import BadCount, BadStep
from samelayout.probes import is_probe_order, linear, stepped, triangular
from tests.values import other_kinds, replaced, shuffled

COUNTS = range(1, 65)


class IsProbeOrderTest(unittest.TestCase):

    def check(self, count, value, expected):
        before = copy.deepcopy(value)
        self.assertIs(is_probe_order(count, value), expected, (count, value))
        self.assertEqual(repr(value), repr(before))

    def orders(self, count):
        yield tuple(range(count))
        yield tuple(range(count))[::-1]
        yield shuffled(count, 0)
        yield shuffled(count, 1)

    def test_orders(self):
        for count in COUNTS:
            for order in self.orders(count):
                self.check(count, order, True)

    def test_asked_for_more_and_fewer_slots(self):
        for count in COUNTS:
            for order in self.orders(count):
                self.check(count + 1, order, False)
                self.check(count - 1, order, False)

    def test_one_item_more_or_fewer(self):
        for count in COUNTS:
            order = shuffled(count, 2)
            self.check(count, order[1:], False)
            self.check(count, order[:-1], False)
            self.check(count, order + order[:1], False)
            self.check(count, order + (count,), False)

    def test_a_list_in_place_of_the_tuple(self):
        for count in COUNTS:
            self.check(count, list(shuffled(count, 3)), False)
            self.check(count, {slot: slot for slot in range(count)}, False)

    def test_one_item_replaced(self):
        for count in COUNTS:
            order = shuffled(count, 4)
            for at, slot in enumerate(order):
                wrong = [count, count + 1, -1, slot - count, 10 ** 30, True, False, None, "", str(slot)]
                wrong += [(), (slot,), [], [slot], {}, {slot: slot}]
                wrong += [order[at - 1]] if count > 1 else []
                for item in wrong:
                    for asked in (count - 1, count, count + 1):
                        self.check(asked, replaced(order, at, item), False)

    def test_bools_that_equal_the_slots(self):
        self.check(1, (False,), False)
        self.check(2, (False, True), False)
        self.check(2, (0, True), False)
        self.check(2, (False, 1), False)

    def test_values_of_other_kinds(self):
        for count in COUNTS:
            for value in other_kinds():
                self.check(count, value, False)


class MadeOrdersTest(unittest.TestCase):

    def check(self, count, order, formula):
        self.assertIs(type(order), tuple)
        self.assertEqual(len(order), count)
        for at, slot in enumerate(order):
            self.assertIs(type(slot), int)
            self.assertEqual(slot, formula(at) % count)

    def test_linear(self):
        for count in COUNTS:
            for home in range(count):
                order = linear(count, home)
                self.check(count, order, lambda at: home + at)
                self.assertTrue(is_probe_order(count, order))

    def test_stepped_formula(self):
        for count in COUNTS:
            for step in (1, 2, 3, count - 1, count + 1, 2 * count - 1, 2 * count + 1, 10 ** 18 * count + 1):
                if step < 1 or math.gcd(step, count) != 1:
                    continue
                for home in range(count):
                    order = stepped(count, home, step)
                    self.check(count, order, lambda at: home + at * step)
                    self.assertTrue(is_probe_order(count, order))

    def test_stepped_raises_exactly_if_slots_are_missed(self):
        for count in COUNTS:
            for step in [*range(1, 2 * count + 3), 10 ** 18, 10 ** 18 + 1]:
                for home in sorted({0, 1 % count, count // 2, count - 1}):
                    self.check_step(count, home, step)

    def test_stepped_raises_from_every_home(self):
        for count in COUNTS:
            for home in range(count):
                for step in (2, 3, 6, count, 2 * count):
                    self.check_step(count, home, step)

    def check_step(self, count, home, step):
        if math.gcd(step, count) == 1:
            self.check(count, stepped(count, home, step), lambda at: home + at * step)
            return
        with self.assertRaises(BadStep) as caught:
            stepped(count, home, step)
        self.assertIs(type(caught.exception), BadStep)
        self.assertEqual(caught.exception.value, step)

    def test_one_slot_is_met_by_every_step(self):
        for step in range(1, 9):
            self.assertEqual(stepped(1, 0, step), (0,))

    def test_triangular(self):
        for count in (1, 2, 4, 8, 16, 32, 64):
            for home in range(count):
                order = triangular(count, home)
                self.check(count, order, lambda at: home + sum(range(at + 1)))
                self.assertTrue(is_probe_order(count, order))

    def test_triangular_raises_exactly_if_count_is_no_power_of_two(self):
        for count in [0, *COUNTS, 65, 96]:
            if count in (1, 2, 4, 8, 16, 32, 64):
                continue
            for home in range(max(1, count)):
                with self.assertRaises(BadCount) as caught:
                    triangular(count, home)
                self.assertIs(type(caught.exception), BadCount)
                self.assertEqual(caught.exception.value, count)

    def test_arguments_by_name(self):
        self.assertIs(is_probe_order(value=(1, 0), count=2), True)
        self.assertEqual(linear(home=2, count=4), (2, 3, 0, 1))
        self.assertEqual(stepped(step=2, home=1, count=5), (1, 3, 0, 2, 4))
        self.assertEqual(triangular(home=0, count=4), (0, 1, 3, 2))

    def test_somewhat_more_slots(self):
        self.assertEqual(linear(65, 64)[:3], (64, 0, 1))
        self.assertEqual(stepped(65, 0, 2)[32:34], (64, 1))
        self.assertEqual(triangular(128, 0)[:4], (0, 1, 3, 6))
        self.assertIs(is_probe_order(65, tuple(range(65))), True)
