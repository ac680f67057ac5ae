"""Linear probing, section 11 of the document, and what guarantee (e) says of it."""

import collections
import itertools
import random
import unittest

from samelayout.errors import TooFull
from samelayout.inserting import layout_of
from samelayout.linear import distance_sum, flows, greatest_distance, square_sum, taken
from samelayout.probes import linear
from samelayout.rules import farther_rule
from tests.values import error_of, ordered_rule, shuffled, some_rule

FUNCTIONS = (flows, taken, distance_sum, greatest_distance, square_sum)


def some_counts(slots, keys, homes, seed):
    """Counts of so many keys over at most so many homes."""
    choice = random.Random(f"{slots} {keys} {homes} {seed}")
    chosen = [choice.randrange(slots) for home in range(homes)]
    counts = [0] * slots
    for key in range(keys):
        counts[choice.choice(chosen)] += 1
    return tuple(counts)


def all_sizes():
    """Counts for 1 to 64 slots: no key, few, many, one slot empty, none empty; homes all over and close together."""
    for slots in range(1, 65):
        for keys in sorted({0, 1, slots // 3, slots // 2, slots * 3 // 4, slots - 1, slots}):
            for homes in sorted({1, 2, slots // 4 + 1, 2 * slots}):
                yield some_counts(slots, keys, homes, 0)


def small_counts(most):
    """All counts of at most so many slots with no more keys than slots."""
    for slots in range(1, most + 1):
        for counts in itertools.product(range(slots + 1), repeat=slots):
            if sum(counts) <= slots:
                yield counts


def homes_of(counts):
    return [slot for slot, count in enumerate(counts) for key in range(count)]


def one_by_one(counts, homes):
    """The slot of each of the homes' keys, put one by one into the first empty slot."""
    entries = [None] * len(counts)
    places = []
    for home in homes:
        slot = home
        while entries[slot] is not None:
            slot = (slot + 1) % len(counts)
        entries[slot] = home
        places.append(slot)
    return places


def gone_over(counts, homes, places):
    """For each slot how many keys go over it and come to rest behind it."""
    over = [0] * len(counts)
    for home, place in zip(homes, places):
        while home != place:
            over[home] += 1
            home = (home + 1) % len(counts)
    return tuple(over)


def in_a_line(counts):
    """The distances of keys that wait in a line; each slot takes the one that has waited longest."""
    line = collections.deque()
    distances = []
    # Whoever is in the line behind two rounds was there behind the first one.
    for at in range(3 * len(counts)):
        line.extend([at] * counts[at % len(counts)])
        if line:
            came = line.popleft()
            if len(counts) <= came < 2 * len(counts):
                distances.append(at - came)
    return distances


def distances_in(probes, layout):
    return [probes[key].index(slot) for slot, key in enumerate(layout) if key != -1]


def turned(counts, by):
    return counts[by:] + counts[:by]


class FlowsTest(unittest.TestCase):

    def check_by_formula(self, counts):
        over = flows(counts)
        self.assertIs(type(over), tuple)
        self.assertEqual({type(flow) for flow in over}, {int})
        self.assertEqual(len(over), len(counts))
        for slot, count in enumerate(counts):
            self.assertEqual(over[slot], max(0, over[slot - 1] + count - 1))
        self.assertIn(0, over)

    def check_one_by_one(self, counts, homes):
        places = one_by_one(counts, homes)
        over = gone_over(counts, homes, places)
        self.assertEqual(flows(counts), over)
        self.assertEqual(repr(taken(counts)), repr(tuple(sorted(places))))
        self.assertEqual(repr(distance_sum(counts)), repr(sum(over)))

    def check(self, counts, seed):
        before = repr(counts)
        self.check_by_formula(counts)
        homes = homes_of(counts)
        self.check_one_by_one(counts, homes)
        self.check_one_by_one(counts, [homes[at] for at in shuffled(len(homes), seed)])
        self.assertEqual([function(counts) for function in FUNCTIONS], [function(counts) for function in FUNCTIONS])
        self.assertEqual(repr(counts), before)

    def test_all_sizes(self):
        for seed, counts in enumerate(all_sizes()):
            self.check(counts, seed)

    def test_all_small_counts(self):
        for counts in small_counts(6):
            self.check(counts, 1)

    def test_turned_round_the_ring(self):
        for counts in all_sizes():
            for by in {1, len(counts) // 2, len(counts) - 1}:
                self.assertEqual(flows(turned(counts, by)), turned(flows(counts), by))
                slots = sorted((slot - by) % len(counts) for slot in taken(counts))
                self.assertEqual(taken(turned(counts, by)), tuple(slots))
                for function in (distance_sum, greatest_distance, square_sum):
                    self.assertEqual(function(turned(counts, by)), function(counts))

    def test_no_keys(self):
        for slots in range(1, 65):
            self.assertEqual(flows((0,) * slots), (0,) * slots)
            self.assertEqual(taken((0,) * slots), ())
            for function in (distance_sum, greatest_distance, square_sum):
                self.assertEqual(repr(function((0,) * slots)), "0")

    def test_a_key_in_each_slot(self):
        for slots in range(1, 65):
            self.assertEqual(flows((1,) * slots), (0,) * slots)
            self.assertEqual(taken((1,) * slots), tuple(range(slots)))
            for function in (distance_sum, greatest_distance, square_sum):
                self.assertEqual(function((1,) * slots), 0)

    def test_as_many_keys_as_slots_with_one_home(self):
        for slots, home in itertools.product((1, 2, 3, 17, 64), (0, 1, 2, 16, 63)):
            if home < slots:
                counts = tuple(slots if slot == home else 0 for slot in range(slots))
                self.assertEqual(flows(counts), turned(tuple(range(slots))[::-1], -home % slots))
                self.assertEqual(taken(counts), tuple(range(slots)))
                self.assertEqual(distance_sum(counts), slots * (slots - 1) // 2)
                self.assertEqual(greatest_distance(counts), slots - 1)
                self.assertEqual(square_sum(counts), (slots - 1) * slots * (2 * slots - 1) // 6)

    def test_somewhat_more_slots(self):
        for keys in (0, 1, 65, 100):
            self.check(some_counts(100, keys, 30, 2), 2)

    def test_arguments_by_name(self):
        counts = (2, 1, 0, 0, 2)
        for function in FUNCTIONS:
            self.assertEqual(function(counts=counts), function(counts))


class AllRulesTest(unittest.TestCase):
    """Which slots are taken and the sum of the distances are the same for all rules and all histories."""

    def check(self, counts, seed):
        homes = homes_of(counts)
        slots = len(counts)
        probes = tuple(linear(slots, home) for home in homes)
        for rule in (some_rule(len(homes), slots, seed), ordered_rule(len(homes), slots, seed), farther_rule(probes)):
            for turn in range(3):
                layout = layout_of(probes, rule, shuffled(len(homes), f"{seed} {turn}"))
                self.assertEqual(tuple(slot for slot, key in enumerate(layout) if key != -1), taken(counts))
                self.assertEqual(sum(distances_in(probes, layout)), distance_sum(counts))

    def test_all_small_counts(self):
        for counts in small_counts(5):
            if sum(counts):
                self.check(counts, 3)

    def test_up_to_sixteen_slots(self):
        for slots in range(1, 17):
            for keys, homes in itertools.product({1, slots // 2 + 1, slots}, (1, 3, 40)):
                self.check(some_counts(slots, min(keys, slots), homes, 4), 4)


class FartherTest(unittest.TestCase):

    def check_by_layout(self, counts):
        """Beside the layout by farther_rule."""
        homes = homes_of(counts)
        if homes:
            probes = tuple(linear(len(counts), home) for home in homes)
            layout = layout_of(probes, farther_rule(probes), tuple(range(len(homes))))
            self.check_distances(counts, distances_in(probes, layout))

    def check_distances(self, counts, distances):
        self.assertEqual(len(distances), sum(counts))
        self.assertEqual(repr(greatest_distance(counts)), repr(max(distances, default=0)))
        self.assertEqual(repr(square_sum(counts)), repr(sum(distance * distance for distance in distances)))

    def test_small_counts_beside_the_layout(self):
        for counts in small_counts(6):
            self.check_by_layout(counts)

    def test_up_to_sixteen_slots_beside_the_layout(self):
        for slots in range(1, 17):
            for keys, homes, seed in itertools.product(range(slots + 1), (1, 2, 4, 40), range(2)):
                self.check_by_layout(some_counts(slots, keys, homes, seed))

    def test_beside_keys_that_wait_in_a_line(self):
        for counts in all_sizes():
            self.check_distances(counts, in_a_line(counts))

    def test_least_among_all_ways_to_put_the_keys(self):
        checked = 0
        for counts in small_counts(5):
            homes = homes_of(counts)
            ways = [[(place - home) % len(counts) for home, place in zip(homes, places)]
                    for places in itertools.permutations(taken(counts))]
            self.assertEqual(greatest_distance(counts), min(max(way, default=0) for way in ways))
            self.assertEqual(square_sum(counts), min(sum(distance * distance for distance in way) for way in ways))
            checked += len(ways)
        self.assertGreater(checked, 10000)

    def test_least_among_many_ways_to_put_more_keys(self):
        for slots, keys in ((7, 6), (7, 7), (8, 6)):
            for homes, seed in itertools.product((1, 2, 3), range(2)):
                counts = some_counts(slots, keys, homes, seed)
                homes = homes_of(counts)
                ways = [[(place - home) % slots for home, place in zip(homes, places)]
                        for places in itertools.permutations(taken(counts))]
                self.assertEqual(greatest_distance(counts), min(max(way) for way in ways))
                self.assertEqual(square_sum(counts), min(sum(step * step for step in way) for way in ways))


class TooFullTest(unittest.TestCase):

    def refuse(self, counts):
        before = repr(counts)
        for function in FUNCTIONS:
            self.assertEqual(error_of(function, counts), (TooFull, (sum(counts),)))
        self.assertEqual(repr(counts), before)

    def test_exactly_if_there_are_more_keys_than_slots(self):
        for slots in range(1, 65):
            for homes in (1, 3, 200):
                for function in FUNCTIONS:
                    self.assertIsNone(error_of(function, some_counts(slots, slots, homes, 5)))
                for more in (1, 2, slots, 3 * slots):
                    self.refuse(some_counts(slots, slots + more, homes, 5))

    def test_all_small_counts(self):
        for slots in (1, 2, 3):
            for counts in itertools.product(range(slots + 3), repeat=slots):
                if sum(counts) > slots:
                    self.refuse(counts)

    def test_far_more_keys(self):
        for slots in (1, 2, 64):
            for many in (10 ** 6, 10 ** 18, 10 ** 40):
                self.refuse((many,) + (0,) * (slots - 1))
                self.refuse((0,) * (slots - 1) + (many,))
                self.refuse((many,) * slots)
