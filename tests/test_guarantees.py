"""The guarantees of section 3 of the document, over the whole program."""

import itertools
import random
import unittest

from samelayout.inserting import insert, layout_of
from samelayout.judging import (
    all_layouts, judge, shows_judgement, shows_layouts, shows_unlike, unlike, unlike_somewhere)
from samelayout.linear import distance_sum, greatest_distance, square_sum, taken
from samelayout.probes import linear
from samelayout.reading import read_history, read_layout, read_setting
from samelayout.removing import fill, look_up, remove
from samelayout.rings import exchange, rings, rings_to_best
from samelayout.rules import farther_rule, is_ordered
from samelayout.session import Session
from samelayout.showing import show_history, show_layout, show_setting
from samelayout.stable import best, each_earlier, each_later, is_stable, stable_layouts, worst
from samelayout.table import Table
from tests.values import (
    blocks, keys_of, mixed_rule, ordered_rule, ordered_settings, ringed_rule, shuffled, some_probes, some_rule)


def sizes(many, most, seed):
    """So many random numbers of keys and slots."""
    choice = random.Random(seed)
    return [(choice.randint(1, most), choice.randint(1, most)) for turn in range(many)]


def settings_of(many, most, seed):
    """Random ordered settings."""
    for turn, size in enumerate(sizes(many, most, seed)):
        yield from ordered_settings((size,), (f"{seed} {turn}",))


def index_of(probes, layout, key):
    return probes[key].index(layout.index(key))


def taken_in(layout):
    return [slot for slot, key in enumerate(layout) if key != -1]


class JudgingTest(unittest.TestCase):
    """(a)"""

    def test_an_ordered_rule_has_one_layout_for_all_histories(self):
        for probes, rule in settings_of(60, 16, "histories"):
            self.assertEqual(judge(rule)[0], "orders")
            chosen = shuffled(len(probes), "chosen")[:len(rule)]
            layouts = {layout_of(probes, rule, tuple(chosen[at] for at in shuffled(len(chosen), turn)))
                       for turn in range(5)}
            self.assertEqual(layouts, {best(probes, rule, tuple(sorted(chosen)))})

    def test_another_rule_has_probe_orders_with_unlike_layouts(self):
        for turn, (keys, slots) in enumerate(sizes(200, 16, "unlike")):
            for rule in (mixed_rule(keys, slots, turn), ringed_rule(max(3, keys), slots, (turn % slots,), turn)):
                found = unlike_somewhere(rule)
                self.assertEqual(found is None, is_ordered(rule) or slots < 3)
                self.assertIs(shows_judgement(rule, judge(rule)), True)
                if found is not None:
                    probes, one, other = found
                    self.assertEqual((len(one), sorted(one)), (3, sorted(other)))
                    self.assertIs(shows_unlike(probes, rule, (one, other)), True)
                    self.assertNotEqual(layout_of(probes, rule, one), layout_of(probes, rule, other))

    def test_either_layouts_or_unlike_histories(self):
        met = set()
        for turn, (keys, slots) in enumerate(sizes(200, 5, "either")):
            probes = some_probes(keys, slots, turn)
            for rule in (some_rule(keys, slots, turn), ordered_rule(keys, slots, turn), mixed_rule(keys, slots, turn)):
                layouts, pair = all_layouts(probes, rule), unlike(probes, rule)
                self.assertEqual(layouts is None, pair is not None)
                self.assertIs(shows_layouts(probes, rule, layouts), layouts is not None)
                self.assertIs(shows_unlike(probes, rule, pair), pair is not None)
                met.add((is_ordered(rule), pair is None))
        self.assertEqual(met, {(True, True), (False, True), (False, False)})

    def test_made_up_layouts_are_not_accepted_where_histories_are_unlike(self):
        ringed = (((1,), (2,), (0,)),) * 3
        for probes in itertools.product(itertools.permutations(range(3)), repeat=3):
            if unlike(probes, ringed) is not None:
                for history in itertools.permutations(range(3)):
                    value = tuple((keys, layout_of(probes, ringed, tuple(key for key in history if key in keys)))
                                  for keys in [(), (0,), (0, 1), (0, 1, 2), (0, 2), (1,), (1, 2), (2,)])
                    self.assertIs(shows_layouts(probes, ringed, value), False)


class LayoutTest(unittest.TestCase):
    """(b)"""

    def check(self, probes, rule, keys):
        layouts = stable_layouts(probes, rule, keys)
        first, last = best(probes, rule, keys), worst(probes, rule, keys)
        for layout in layouts:
            self.assertIs(is_stable(probes, rule, layout), True)
            self.assertEqual(taken_in(layout), taken_in(first))
            for key in keys:
                indexes = [index_of(probes, other, key) for other in (first, layout, last)]
                self.assertEqual(indexes, sorted(indexes))
            for slot in taken_in(first):
                # No stable layout has a weaker key there.
                self.assertNotIn(layout[slot], rule[slot][first[slot]])
                self.assertNotIn(last[slot], rule[slot][layout[slot]])
            self.assertEqual(rings(probes, rule, layout) == (), layout == first)
            self.check_ways(probes, rule, layout, first)
        for one, other in itertools.combinations(layouts, 2):
            self.assertIn(each_earlier(probes, one, other), layouts)
            self.assertIn(each_later(probes, one, other), layouts)
        return len(layouts)

    def check_ways(self, probes, rule, layout, first):
        """Exchanging rings, whichever comes next, leads to the best layout, and exchanges the same rings."""
        told = rings_to_best(probes, rule, layout)
        for seed in range(2):
            choice, now, passed = random.Random(seed), layout, []
            while rings(probes, rule, now):
                ring = choice.choice(rings(probes, rule, now))
                after = exchange(probes, rule, now, ring)
                passed.append(tuple((slot, now[slot], after[slot]) for slot in ring))
                now = after
            self.assertEqual((now, tuple(sorted(passed))), (first, told))

    def test_random_settings(self):
        many = [self.check(probes, rule, tuple(sorted(shuffled(len(probes), "stable")[:min(len(rule), 5)])))
                for probes, rule in settings_of(40, 7, "stable")]
        many += [self.check(*blocks(sizes, 1, 8), tuple(range(sum(sizes)))) for sizes in ((2, 2), (3, 2), (5,))]
        self.assertGreater(max(many), 3)

    def test_what_inserts_lead_to_is_stable(self):
        for probes, rule in settings_of(40, 16, "inserts"):
            layout = (-1,) * len(rule)
            for key in shuffled(len(probes), "inserts")[:len(rule)]:
                layout = insert(probes, rule, layout, key)[0]
                self.assertIs(is_stable(probes, rule, layout), True)
                self.assertEqual(rings(probes, rule, layout), ())


class MoreAndFewerTest(unittest.TestCase):
    """(c) and (d)"""

    def check_more(self, probes, rule, fewer, more):
        for key in keys_of(fewer):
            self.assertLessEqual(index_of(probes, fewer, key), index_of(probes, more, key))
        for slot in taken_in(fewer):
            self.assertNotIn(more[slot], (-1, *rule[slot][fewer[slot]]))

    def check_look_ups(self, probes, rule, layout):
        for key in range(len(probes)):
            slot, reads = look_up(probes, rule, layout, key)
            self.assertEqual(slot != -1, key in layout)
            if slot != -1:
                self.assertEqual((layout[slot], probes[key][reads - 1]), (key, slot))
            elif -1 in layout:
                stay = insert(probes, rule, layout, key)[1][0]
                self.assertEqual(stay, (key, probes[key][reads - 1]))

    def test_random_settings(self):
        for turn, (probes, rule) in enumerate(settings_of(40, 16, "more")):
            choice, layout = random.Random(turn), (-1,) * len(rule)
            for step in range(20):
                key = choice.randrange(len(probes))
                if key in layout:
                    after = remove(probes, rule, layout, key)
                    self.check_more(probes, rule, after, layout)
                    self.assertEqual(taken_in(fill(probes, rule, layout, key)[0]), taken_in(after))
                elif -1 in layout:
                    after = insert(probes, rule, layout, key)[0]
                    self.check_more(probes, rule, layout, after)
                layout = after
                self.assertEqual(layout, best(probes, rule, keys_of(layout)))
            self.check_look_ups(probes, rule, layout)


class LinearTest(unittest.TestCase):
    """(e)"""

    def test_random_tables(self):
        for turn, (keys, slots) in enumerate(sizes(80, 16, "linear")):
            keys = min(keys, slots)
            choice = random.Random(turn)
            homes = [choice.randrange(slots) for key in range(keys)]
            probes = tuple(linear(slots, home) for home in homes)
            counts = tuple(homes.count(slot) for slot in range(slots))
            self.assertTrue(is_ordered(farther_rule(probes)))
            self.check(probes, farther_rule(probes), counts)
            for rule in (some_rule(keys, slots, turn), mixed_rule(keys, slots, turn), ordered_rule(keys, slots, turn)):
                self.check(probes, rule, counts)

    def check(self, probes, rule, counts):
        for seed in range(3):
            layout = layout_of(probes, rule, shuffled(len(probes), seed))
            distances = [index_of(probes, layout, key) for key in range(len(probes))]
            self.assertEqual((tuple(taken_in(layout)), sum(distances)), (taken(counts), distance_sum(counts)))
            found = (max(distances), sum(distance * distance for distance in distances))
            least = (greatest_distance(counts), square_sum(counts))
            if rule == farther_rule(probes):
                self.assertEqual(found, least)
            self.assertGreaterEqual(found[0], least[0])
            self.assertGreaterEqual(found[1], least[1])


class WholeProgramTest(unittest.TestCase):
    """(f)"""

    def test_tables_with_the_same_content(self):
        for turn in range(60):
            choice = random.Random(f"tables {turn}")
            way, rule = choice.choice(("linear", "triangular")), choice.choice(("names", "farther"))
            count = choice.choice((1, 2, 4, 8, 16, 32, 64)) if way == "triangular" else choice.randint(1, 64)
            words = sorted({"".join(choice.choices("abyz", k=choice.randint(1, 8))) for word in range(count)})
            tables = [Table(count, way=way, rule=rule) for table in range(2)]
            for table in tables:
                for word in choice.sample(words, len(words)):
                    table.put(word, "")
                for word in choice.sample(words, len(words) // 2):
                    table.take_out(word)
                    table.put(word, "x")
                for word in words:
                    table.put(word, word[::-1])
            self.assertEqual(tables[0], tables[1])
            self.assertEqual(tables[0].layout(), tables[1].layout())
            self.assertEqual(tables[0].distances(), tables[1].distances())

    def test_linear_tables_and_the_formulas(self):
        for turn in range(60):
            choice = random.Random(f"formulas {turn}")
            count = choice.randint(1, 64)
            table = Table(count, rule="farther")
            other = Table(count)
            homes = [0] * count
            for word in sorted({"".join(choice.choices("abyz", k=choice.randint(1, 5))) for word in range(count)}):
                table.put(word, "")
                other.put(word, "")
                alone = Table(count)
                alone.put(word, "")
                homes[alone.look_up(word)[0]] += 1
            distances = [distance for name, distance in table.distances()]
            self.assertEqual(sum(distances), distance_sum(tuple(homes)))
            self.assertEqual(sum(distance for name, distance in other.distances()), distance_sum(tuple(homes)))
            self.assertEqual(max(distances), greatest_distance(tuple(homes)))
            self.assertEqual(sum(distance * distance for distance in distances), square_sum(tuple(homes)))
            for one in (table, other):
                self.assertEqual(tuple(slot for slot, name in enumerate(one.layout()) if name), taken(tuple(homes)))

    def test_what_is_written_is_read_back(self):
        for turn, (keys, slots) in enumerate(sizes(100, 16, "written")):
            probes, rule = some_probes(keys, slots, turn), mixed_rule(keys, slots, turn)
            self.assertEqual(read_setting(show_setting(probes, rule)), (probes, rule))
            history = shuffled(keys, turn)[:turn % (min(keys, slots) + 1)]
            self.assertEqual(read_history(show_history(history)), history)
            layout = layout_of(probes, rule, history)
            self.assertEqual(read_layout(show_layout(layout)), layout)

    def test_a_session_answers_as_the_functions_do(self):
        for turn, (probes, rule) in enumerate(settings_of(15, 16, "session")):
            session, layout = Session(show_setting(probes, rule)), (-1,) * len(rule)
            for key in shuffled(len(probes), turn)[:len(rule)]:
                layout, path = insert(probes, rule, layout, key)
                self.assertEqual(session.say(f"insert {key}"), " ".join(f"{held}:{slot}" for held, slot in path))
                self.assertEqual(read_layout(session.say("show")), layout)
                self.assertEqual(read_history(session.say("keys")), keys_of(layout))
            for key in keys_of(layout):
                slot, reads = look_up(probes, rule, layout, key)
                self.assertEqual(session.say(f"find {key}"), f"{slot} reads {reads}")
                layout = remove(probes, rule, layout, key)
                self.assertEqual((session.say(f"remove {key}"), session.say("show")), ("ok", show_layout(layout)))
