"""Long tables, section 12 of the document."""

import itertools
import random
import unittest

from samelayout.errors import TooFull
from samelayout.linear import distance_sum, flows, greatest_distance, taken
from samelayout.runs import run_distance_sum, run_flow, run_greatest, run_taken
from tests.values import error_of

WHOLE = (run_distance_sum, run_greatest)
AT_SLOTS = (run_flow, run_taken)
MOST = 10 ** 18


def written_out(runs):
    """The counts of all slots."""
    return tuple(count for size, count in runs for slot in range(size))


def slots_in(runs):
    return sum(size for size, count in runs)


def keys_in(runs):
    return sum(size * count for size, count in runs)


def some_runs(many, sizes, counts, seed):
    """Runs of these sizes and counts, with as many empty slots behind them as there must be."""
    choice = random.Random(f"{many} {sizes} {counts} {seed}")
    runs = [(choice.randint(*sizes), choice.choice(counts)) for run in range(many)]
    short = keys_in(runs) - slots_in(runs)
    if short > 0:
        runs.insert(choice.randrange(many + 1), (short + choice.randrange(3) * choice.randint(*sizes), 0))
    return tuple(runs)


def short_runs():
    """Runs that are short enough to be written out."""
    for many in (1, 2, 3, 5, 8, 20, 39):
        for most, counts, seed in itertools.product((1, 2, 7), ((0, 1), (0, 2), (0, 0, 0, 3), (0, 1, 2, 5)), range(3)):
            yield some_runs(many, (1, most), counts, seed)


def long_runs():
    """Runs of up to 10 ** 18 slots."""
    for many, counts, seed in itertools.product((1, 2, 3, 7, 39), ((0, 2), (0, 1, 2), (0, 0, 0, 3), (0, 1)), range(4)):
        most = MOST // (8 * many)
        yield some_runs(many, (1, most), counts, seed)
        yield some_runs(many, (most // 2, most // 2 + 9), counts, seed)


def turned(runs, by):
    return runs[by:] + runs[:by]


def ends_of(runs):
    """The first slots of all runs, the last ones, and those beside them and in the middle."""
    total, found, first = slots_in(runs), {0}, 0
    for size, count in runs:
        last = first + size - 1
        found |= {first - 1, first, first + 1, (first + last) // 2, last - 1, last, last + 1}
        first += size
    return sorted({slot % total for slot in found})


def surplus(runs, slot):
    """How many more keys than slots there are up to a slot, which may be in the second round."""
    more = 0
    for size, count in runs + runs:
        inside = min(size, slot + 1)
        more += inside * (count - 1)
        slot -= inside
    return more


def flow_by_surplus(runs, slot):
    """The flow at a slot: its surplus over the least one ahead of it, over two rounds.

    Inside a run the surplus goes up, or down, or stays, all the way: the least is found at the end of a run.
    """
    total = slots_in(runs)
    ends = list(itertools.accumulate([size for size, count in runs + runs], initial=0))
    behind = total + slot
    least = min(surplus(runs, end - 1) for end in ends if end <= behind)
    return surplus(runs, behind) - min(least, surplus(runs, behind))


def sum_by_places(runs):
    """The sum of all distances: that of the taken slots less that of the homes, from a slot on that none goes over."""
    lasts = list(itertools.accumulate([size for size, count in runs]))
    first = next(at for at, last in enumerate(lasts) if flow_by_surplus(runs, last - 1) == 0)
    rows = turned(runs, first + 1)
    total, place, flow = 0, 0, 0
    for size, count in rows:
        if count == 0:
            here = min(size, flow)
            flow -= here
        else:
            here = size
            flow += size * (count - 1)
        total += sum_from(place, here) - count * sum_from(place, size)
        place += size
    return total


def sum_from(first, many):
    """first + (first + 1) + .., so many numbers."""
    return (first + many) * (first + many - 1) // 2 - first * (first - 1) // 2


class ShortRunsTest(unittest.TestCase):

    def check(self, runs):
        before = repr(runs)
        counts = written_out(runs)
        over, slots = flows(counts), taken(counts)
        for slot in range(len(counts)):
            self.assertEqual(repr(run_flow(runs, slot)), repr(over[slot]))
            self.assertIs(run_taken(runs, slot), slot in slots)
        self.assertEqual(repr(run_distance_sum(runs)), repr(distance_sum(counts)))
        self.assertEqual(repr(run_greatest(runs)), repr(greatest_distance(counts)))
        self.assertEqual(repr(runs), before)

    def test_beside_the_counts_written_out(self):
        for runs in short_runs():
            self.check(runs)

    def test_all_small_runs(self):
        for many in (1, 2, 3):
            for sizes in itertools.product((1, 2, 3), repeat=many):
                for counts in itertools.product((0, 1, 2, 4), repeat=many):
                    runs = tuple(zip(sizes, counts))
                    if keys_in(runs) <= slots_in(runs):
                        self.check(runs)

    def test_runs_of_one_slot(self):
        choice = random.Random(1)
        for many in range(1, 41):
            counts = [0] * many
            for key in range(choice.randint(0, many)):
                counts[choice.randrange(many)] += 1
            self.check(tuple((1, count) for count in counts))

    def test_keys_that_go_over_the_end_of_the_ring(self):
        for size, count in itertools.product((1, 2, 5), (2, 3)):
            empty = (size * (count - 1), 0)
            for more in (0, 1, 4):
                self.check((empty, (size, count)) + ((more, 1),) * (more > 0))
                self.check(((1, 0), empty, (2, 1), (size, count)))
                self.check(((1, 1), empty, (size, count)))

    def test_somewhat_more_runs(self):
        self.check(((1, 2), (2, 0)) * 25)


class LongRunsTest(unittest.TestCase):

    def check(self, runs):
        self.assertLessEqual(slots_in(runs), MOST)
        before = repr(runs)
        greatest = 0
        for slot in ends_of(runs):
            flow = flow_by_surplus(runs, slot)
            self.assertEqual(repr(run_flow(runs, slot)), repr(flow))
            coming = flow_by_surplus(runs, (slot - 1) % slots_in(runs))
            self.assertIs(run_taken(runs, slot), coming + self.count_at(runs, slot) > 0)
            greatest = max(greatest, flow)
        self.assertEqual(repr(run_greatest(runs)), repr(greatest))
        self.assertEqual(repr(run_distance_sum(runs)), repr(sum_by_places(runs)))
        for function in WHOLE:
            self.assertEqual(function(runs), function(runs))
        self.assertEqual(repr(runs), before)

    def count_at(self, runs, slot):
        for size, count in runs:
            if slot < size:
                return count
            slot -= size
        raise AssertionError("there is no such slot")

    def test_what_the_test_expects_beside_the_counts_written_out(self):
        for runs in short_runs():
            counts = written_out(runs)
            self.assertEqual(tuple(flow_by_surplus(runs, slot) for slot in range(len(counts))), flows(counts))
            self.assertEqual(sum_by_places(runs), distance_sum(counts))

    def test_long_runs(self):
        for runs in long_runs():
            self.check(runs)

    def test_turned_round_the_ring(self):
        for runs in long_runs():
            for by in {1, len(runs) // 2, len(runs) - 1}:
                self.check_turned(runs, by)

    def check_turned(self, runs, by):
        other = turned(runs, by)
        ahead = sum(size for size, count in runs[:by])
        for function in WHOLE:
            self.assertEqual(function(other), function(runs))
        for slot in ends_of(runs):
            for function in AT_SLOTS:
                self.assertEqual(function(other, (slot - ahead) % slots_in(runs)), function(runs, slot))

    def test_runs_cut_in_two(self):
        choice = random.Random(2)
        for runs in long_runs():
            at = choice.randrange(len(runs))
            size, count = runs[at]
            if size > 1:
                for part in {1, choice.randint(1, size - 1), size - 1}:
                    other = runs[:at] + ((part, count), (size - part, count)) + runs[at + 1:]
                    for function in WHOLE:
                        self.assertEqual(function(other), function(runs))
                    for slot, function in itertools.product(ends_of(other), AT_SLOTS):
                        self.assertEqual(function(other, slot), function(runs, slot))

    def test_put_twice_one_behind_another(self):
        for runs in long_runs():
            twice = runs + runs
            self.assertEqual(run_distance_sum(twice), 2 * run_distance_sum(runs))
            self.assertEqual(run_greatest(twice), run_greatest(runs))
            for slot, function in itertools.product(ends_of(runs), AT_SLOTS):
                self.assertEqual(function(twice, slot), function(runs, slot))
                self.assertEqual(function(twice, slot + slots_in(runs)), function(runs, slot))


class ClosedFormulasTest(unittest.TestCase):

    def test_a_single_run(self):
        for size in (1, 2, 63, 64, 10 ** 9, MOST - 1, MOST):
            for count in (0, 1):
                runs = ((size, count),)
                self.assertEqual([repr(function(runs)) for function in WHOLE], ["0", "0"])
                for slot in {0, size // 2, size - 1}:
                    self.assertEqual(repr(run_flow(runs, slot)), "0")
                    self.assertIs(run_taken(runs, slot), count == 1)

    def check_full_and_empty(self, size, count, empty):
        """Slots with several keys each, and empty slots behind them."""
        keys, over = size * count, size * (count - 1)
        # The keys take the slots 0, 1, .. in order.
        total = keys * (keys - 1) // 2 - count * (size * (size - 1) // 2)
        for runs, first in ((((size, count), (empty, 0)), 0), (((empty, 0), (size, count)), empty)):
            self.assertEqual(run_distance_sum(runs), total)
            self.assertEqual(run_greatest(runs), over)
            slots = size + empty
            for at, flow in ((0, count - 1), (size - 1, over), (size, max(0, over - 1)), (keys - 1, 0)):
                if at < slots:
                    self.assertEqual(run_flow(runs, (first + at) % slots), flow)
                    self.assertIs(run_taken(runs, (first + at) % slots), at < keys)
            if keys < slots:
                self.assertIs(run_taken(runs, (first + keys) % slots), False)
                self.assertIs(run_taken(runs, (first - 1) % slots), False)
                self.assertEqual(run_flow(runs, (first - 1) % slots), 0)

    def test_full_slots_and_empty_ones(self):
        for size in (1, 2, 1000, 10 ** 9, MOST // 4, MOST // 4 - 7):
            for count in (2, 3, 4):
                for more in (0, 1, 2, MOST - 4 * size):
                    self.check_full_and_empty(size, count, size * (count - 1) + max(0, more))

    def test_one_home_with_all_keys(self):
        for keys in (2, 64, 10 ** 9, MOST):
            for more in (0, MOST - keys):
                self.check_full_and_empty(1, keys, keys - 1 + more)

    def test_forty_runs(self):
        for size in (1, 10 ** 6, MOST // 40):
            runs = ((size, 2), (size, 0)) * 20
            self.assertEqual(run_distance_sum(runs), 20 * size * size)
            self.assertEqual(run_greatest(runs), size)
            for at in range(40):
                self.assertEqual(run_flow(runs, at * size + size - 1), size if at % 2 == 0 else 0)
                self.assertIs(run_taken(runs, at * size + size - 1), True)

    def test_forty_runs_one_upon_another(self):
        # Over the first twenty runs the flow goes on growing, over the others it goes down.
        size = MOST // 40
        rising, falling = ((size, 2),) * 20, ((size, 0),) * 20
        for by in range(40):
            runs = turned(rising + falling, by)
            self.assertEqual(run_greatest(runs), 20 * size)
            self.assertEqual(run_distance_sum(runs), 400 * size * size)
            self.assertEqual(run_flow(runs, ((20 - by) * size - 1) % (40 * size)), 20 * size)
            self.assertEqual(run_flow(runs, ((40 - by) * size - 1) % (40 * size)), 0)
            self.assertEqual(run_flow(runs, ((39 - by) * size - 1) % (40 * size)), size)

    def test_a_flow_that_stays(self):
        # One key a slot: as many as come go on.
        for size in (1, 10 ** 9, MOST // 4):
            runs = ((size, 2), (2 * size, 1), (size, 0))
            self.assertEqual(run_greatest(runs), size)
            self.assertEqual(run_distance_sum(runs), size * size + 2 * size * size)
            for slot in (size - 1, size, 2 * size, 3 * size - 1):
                self.assertEqual(run_flow(runs, slot), size)

    def test_arguments_by_name(self):
        runs = ((1000, 2), (2000, 0))
        self.assertEqual(run_flow(slot=999, runs=runs), 1000)
        self.assertIs(run_taken(slot=2000, runs=runs), False)
        self.assertEqual((run_distance_sum(runs=runs), run_greatest(runs=runs)), (1000000, 1000))


class TooFullTest(unittest.TestCase):

    def refuse(self, runs):
        before = repr(runs)
        expected = (TooFull, (keys_in(runs),))
        for function in WHOLE:
            self.assertEqual(error_of(function, runs), expected)
        for function, slot in itertools.product(AT_SLOTS, {0, runs[0][0] - 1, slots_in(runs) - 1}):
            self.assertEqual(error_of(function, runs, slot), expected)
        self.assertEqual(repr(runs), before)

    def accept(self, runs):
        for function in WHOLE:
            self.assertIsNone(error_of(function, runs))
        for function, slot in itertools.product(AT_SLOTS, {0, slots_in(runs) - 1}):
            self.assertIsNone(error_of(function, runs, slot))

    def test_exactly_if_there_are_more_keys_than_slots(self):
        for size, count in itertools.product((1, 2, 10 ** 9, MOST // 8), (2, 3, 7)):
            over = size * (count - 1)
            self.accept(((size, count), (over, 0)))
            self.accept(((over, 0), (size, count)))
            if over > 1:
                self.refuse(((size, count), (over - 1, 0)))
                self.refuse(((over - 1, 0), (size, count)))
            self.refuse(((size, count),))
            self.refuse(((size, count), (over, 0), (1, 2)))

    def test_all_small_runs(self):
        for sizes in itertools.product((1, 2, 3), repeat=2):
            for counts in itertools.product((0, 1, 2, 4), repeat=2):
                runs = tuple(zip(sizes, counts))
                (self.refuse if keys_in(runs) > slots_in(runs) else self.accept)(runs)

    def test_forty_runs(self):
        size = MOST // 40
        self.accept(((size, 1),) * 40)
        self.refuse(((size, 1),) * 39 + ((size, 2),))
        self.refuse(((1, 2),) + ((size, 1),) * 39)

    def test_far_more_keys(self):
        for count in (2, 10 ** 6, 10 ** 18, 10 ** 40):
            for size in (1, 10 ** 9, MOST):
                self.refuse(((size, count),))
