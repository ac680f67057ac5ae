"""A table, section 13 of the document, and what guarantee (f) says of it."""

import copy
import itertools
import random
import re
import unittest

from samelayout.errors import Absent, BadCount, BadName, BadRule, BadValue, BadWay, Full, TooFull
from samelayout.probes import linear, triangular
from samelayout.rules import farther_rule, rule_of_orders
from samelayout.stable import best
from samelayout.table import Table
from tests.values import error_of, insert_by_words, other_kinds

POWERS = (1, 2, 4, 8, 16, 32, 64)
KINDS = [(count, way, rule) for count in range(1, 65) for way in ("linear", "triangular")
         for rule in ("names", "farther") if way == "linear" or count in POWERS]
FEW_KINDS = [kind for kind in KINDS if kind[0] in (1, 2, 3, 4, 7, 16, 33, 64)]
LETTERS = "abcdefghijklmnopqrstuvwxyz"
WORDS = ["a", "z", "abcdefgh", "zzzzzzzz", "hello"]
BAD_WORDS = ["abcdefghi", "a" * 9, "a" * 1000, "A", "aB", "Zz", "a b", " a", "a ", "a\n", "\n", "a1", "1", "-", "_",
             "a.b", "`", "{", "@", "[", "a\t", "~", "\x00", "\x7f", "a\x00"]


def number_by_words(name):
    """The number of a name, by the words of section 13."""
    return sum((ord(letter) - ord("a") + 1) * 31 ** at for at, letter in enumerate(reversed(name)))


def order_by_words(count, way, name):
    """The probe order of a name, by the words of sections 13 and 4."""
    home = number_by_words(name) % count
    steps = itertools.accumulate(range(count)) if way == "triangular" else range(count)
    return tuple((home + step) % count for step in steps)


def beats_by_words(count, way, rule, slot, one, other):
    if rule == "names":
        return min(one, other) == one
    far, near = (order_by_words(count, way, name).index(slot) for name in (one, other))
    return one < other if far == near else far > near


def layout_by_names(count, way, rule, names):
    """The layout of some names, each inserted by the words of section 6."""
    entries = {}
    for name in names:
        left = list(order_by_words(count, way, name))
        while (slot := left.pop(0)) in entries:
            if beats_by_words(count, way, rule, slot, name, entries[slot]):
                entries[slot], name = name, entries[slot]
                left = list(order_by_words(count, way, name))
                left = left[left.index(slot) + 1:]
        entries[slot] = name
    return tuple(entries.get(slot, "") for slot in range(count))


def setting_of(count, way, rule, names):
    """Probes and a rule for names in their ascending order, as in sections 4 to 8."""
    homes = [number_by_words(name) % count for name in sorted(names)]
    probes = tuple((triangular if way == "triangular" else linear)(count, home) for home in homes)
    if rule == "farther":
        return probes, farther_rule(probes)
    return probes, rule_of_orders((tuple(range(len(names))),) * count)


def best_by_sections(count, way, rule, names):
    """The best layout of some names, by the functions of sections 4 to 8."""
    names = sorted(names)
    if not names:
        return ("",) * count
    probes, tables = setting_of(count, way, rule, names)
    return tuple(names[key] if key != -1 else "" for key in best(probes, tables, tuple(range(len(names)))))


def look_up_by_words(count, way, rule, layout, name):
    """What look_up returns, by the words of section 10."""
    for at, slot in enumerate(order_by_words(count, way, name)):
        if layout[slot] == name:
            return slot, at + 1
        if layout[slot] == "" or beats_by_words(count, way, rule, slot, name, layout[slot]):
            return -1, at + 1
    return -1, count


def some_names(many, seed):
    """So many different names, some of them short, some with the same home, of all lengths."""
    choice = random.Random(f"{many} {seed}")
    found = {}
    while len(found) < many:
        letters = choice.choice(("ab", "az", LETTERS))
        found["".join(choice.choice(letters) for at in range(choice.randint(1, 8)))] = True
    return list(found)


def some_value(choice):
    return "".join(choice.choice(LETTERS) for at in range(choice.choice((0, 1, 2, 7, 8))))


def filled(kind, contents):
    """A table of this kind with these names and values, put in their order."""
    count, way, rule = kind
    table = Table(count, way=way, rule=rule)
    for name, value in contents.items():
        table.put(name, value)
    return table


def state_of(table):
    """All that can be seen of a table."""
    values = tuple((name, table.value_of(name)) for name in table.names())
    return repr((table.slots(), len(table), values, table.layout(), table.distances()))


def is_word(value, least):
    return isinstance(value, str) and re.fullmatch("[a-z]*", value) is not None and least <= len(value) <= 8


def any_values():
    """Values of every kind, and strings beside the limits."""
    return other_kinds() + WORDS + BAD_WORDS + [tuple(WORDS), list(WORDS), {"a": "a"}, ("a",), ["a"], [("a", "b")]]


class MakingTest(unittest.TestCase):

    def expected(self, count, way, rule):
        """The error that making a table raises, or None."""
        if not (isinstance(way, str) and way in ("linear", "triangular")):
            return BadWay, way
        if not (isinstance(rule, str) and rule in ("names", "farther")):
            return BadRule, rule
        if type(count) is not int or not 1 <= count <= 64 or (way == "triangular" and count not in POWERS):
            return BadCount, count
        return None

    def check(self, count, way, rule):
        before = repr((count, way, rule))
        expected = self.expected(count, way, rule)
        found = error_of(Table, count, way=way, rule=rule)
        if expected is None:
            self.assertIsNone(found)
            table = Table(count, way=way, rule=rule)
            self.assertEqual(table.layout(), ("",) * count)
            self.assertEqual((len(table), table.slots(), table.names(), table.distances()), (0, count, (), ()))
        else:
            self.assertIs(found[0], expected[0])
            self.assertIs(found[1][0], expected[1])
        self.assertEqual(repr((count, way, rule)), before)

    def test_any_count(self):
        for count in [*range(-3, 140), *any_values()]:
            for way, rule in itertools.product(("linear", "triangular"), ("names", "farther")):
                self.check(count, way, rule)

    def test_any_way(self):
        ways = ["linear", "triangular", "Linear", "linear ", "LINEAR", "triangula", "stepped", "names", "farther"]
        for way, count, rule in itertools.product(ways + any_values(), (4, 0, None), ("names", "farther")):
            self.check(count, way, rule)

    def test_any_rule(self):
        rules = ["names", "farther", "Names", "name", "far", "farther ", "linear", "triangular"]
        for rule, count, way in itertools.product(rules + any_values(), (4, 65, "4"), ("linear", "triangular")):
            self.check(count, way, rule)

    def test_errors_in_their_order(self):
        self.assertEqual(error_of(Table, 0, way="x", rule="y"), (BadWay, ("x",)))
        self.assertEqual(error_of(Table, 0, rule="y", way="linear"), (BadRule, ("y",)))
        self.assertEqual(error_of(Table, 0), (BadCount, (0,)))
        self.assertEqual(error_of(Table, 6, way="triangular"), (BadCount, (6,)))
        for values in itertools.product(any_values()[::7], repeat=2):
            self.check(0, *values)

    def test_defaults(self):
        for count in range(1, 65):
            self.assertEqual(Table(count), Table(count, way="linear", rule="names"))
            self.assertEqual(Table(count=count), Table(rule="names", count=count, way="linear"))

    def test_way_and_rule_are_passed_by_name_only(self):
        for values in ((4, "linear"), (4, "linear", "names"), ()):
            with self.assertRaises(TypeError):
                Table(*values)


class LayoutTest(unittest.TestCase):

    def check(self, table, kind, contents):
        """All that a table tells, given its kind and its content."""
        count, way, rule = kind
        layout = table.layout()
        self.assertIs(type(layout), tuple)
        self.assertEqual(layout, layout_by_names(count, way, rule, contents))
        if count <= 16:
            self.assertEqual(layout, best_by_sections(count, way, rule, contents))
        self.assertEqual(repr(table.names()), repr(tuple(sorted(contents))))
        self.assertEqual((len(table), table.slots()), (len(contents), count))
        for name, value in contents.items():
            self.assertEqual(table.value_of(name), value)
        distances = [(name, order_by_words(count, way, name).index(layout.index(name))) for name in sorted(contents)]
        self.assertEqual(repr(table.distances()), repr(tuple(distances)))

    def check_look_ups(self, table, kind, names):
        layout = table.layout()
        for name in names:
            found = table.look_up(name)
            self.assertEqual(repr(found), repr(look_up_by_words(*kind, layout, name)))
            self.assertEqual(found[0], layout.index(name) if name in layout else -1)
            self.assertEqual(table.look_up(name=name), found)

    def go_on(self, kind, pool, steps, choice):
        """Names put, changed, taken out and put again."""
        table, contents = filled(kind, {}), {}
        met = set()
        for step in range(steps):
            name, value = choice.choice(pool), some_value(choice)
            if name in contents and choice.random() < 0.6:
                self.assertEqual(table.take_out(name), contents.pop(name))
                met.add("taken out")
            elif name in contents or len(contents) < kind[0]:
                met.add("changed" if name in contents else "put")
                self.assertIsNone(table.put(name, value))
                contents[name] = value
            else:
                before = state_of(table)
                self.assertEqual(error_of(table.put, name, value), (Full, ()))
                self.assertEqual(state_of(table), before)
                met.add("full")
            self.check(table, kind, contents)
            self.check_look_ups(table, kind, [name, choice.choice(pool)])
        self.check_look_ups(table, kind, pool)
        return met

    def test_random_orders_of_small_tables(self):
        for kind in [kind for kind in KINDS if kind[0] <= 16]:
            choice = random.Random(str(kind))
            met = self.go_on(kind, some_names(kind[0] + 3, str(kind)), 40, choice)
            self.assertLessEqual({"put", "taken out"}, met)

    def test_random_orders_of_large_tables(self):
        for kind in [kind for kind in KINDS if kind[0] in (17, 31, 32, 48, 64)]:
            self.go_on(kind, some_names(2 * kind[0], str(kind)), 40, random.Random(str(kind)))

    def test_tables_of_all_sizes_until_they_are_full(self):
        for kind in KINDS:
            names = some_names(kind[0] + 2, f"full {kind}")
            contents = {name: name[::-1] for name in names[:kind[0]]}
            table = filled(kind, contents)
            self.check(table, kind, contents)
            self.check_look_ups(table, kind, names)
            before = state_of(table)
            for name in names[kind[0]:]:
                self.assertEqual(error_of(table.put, name, ""), (Full, ()))
            self.assertEqual(state_of(table), before)
            # A name that is there can still be changed.
            table.put(names[0], "new")
            self.assertEqual(table.value_of(names[0]), "new")
            self.assertEqual(table.take_out(names[0]), "new")
            del contents[names[0]]
            self.check(table, kind, contents)

    def test_taken_out_until_none_is_left(self):
        for kind in FEW_KINDS:
            contents = {name: "" for name in some_names(kind[0], f"out {kind}")}
            table = filled(kind, contents)
            for name in random.Random(str(kind)).sample(sorted(contents), kind[0]):
                self.assertEqual(repr(table.take_out(name)), "''")
                del contents[name]
                self.check(table, kind, contents)
            self.assertEqual(table, filled(kind, {}))

    def test_unlike_histories_of_the_same_content(self):
        for kind in KINDS:
            choice = random.Random(str(kind))
            names = some_names(kind[0] + 2, f"same {kind}")
            for many in {0, 1, kind[0] // 2, kind[0]}:
                contents = {name: some_value(choice) for name in names[:many]}
                one = filled(kind, contents)
                other = filled(kind, {})
                for name in choice.sample(names, min(len(names), kind[0])):
                    other.put(name, "x")
                for name in choice.sample(other.names(), len(other)):
                    if name not in contents or choice.random() < 0.5:
                        other.take_out(name)
                for name in choice.sample(sorted(contents), many):
                    other.put(name, contents[name])
                self.assertIs(one == other, True)
                self.assertIs(one != other, False)
                self.assertEqual(state_of(one), state_of(other))

    def test_all_orders_of_few_names(self):
        for kind in [kind for kind in KINDS if kind[0] in (4, 5)]:
            names = ["a", "e", "i", "f"]
            layouts = {filled(kind, dict.fromkeys(order, "")).layout() for order in itertools.permutations(names)}
            self.assertEqual(layouts, {best_by_sections(*kind, names)})

    def test_the_rule_matters_and_the_way(self):
        names = dict.fromkeys(("b", "a", "i", "q"), "")
        self.assertEqual(filled((8, "linear", "names"), names).layout(), ("", "a", "b", "i", "q", "", "", ""))
        self.assertEqual(filled((8, "linear", "farther"), names).layout(), ("", "a", "i", "q", "b", "", "", ""))
        self.assertEqual(filled((8, "triangular", "names"), names).layout(), ("", "a", "b", "", "i", "", "", "q"))
        self.assertEqual(filled((8, "triangular", "farther"), names).layout(), ("", "a", "i", "b", "q", "", "", ""))

    def test_homes(self):
        for name in WORDS + some_names(200, "homes"):
            for count in (1, 2, 31, 61, 64):
                table = Table(count)
                table.put(name, "")
                self.assertEqual(table.layout().index(name), number_by_words(name) % count)
        self.assertEqual((number_by_words("a"), number_by_words("z"), number_by_words("ba")), (1, 26, 63))

    def test_names_are_not_put_twice(self):
        for kind in FEW_KINDS:
            table = filled(kind, {"a": "x"})
            table.put("a", "y")
            self.assertEqual((len(table), table.names(), table.value_of("a")), (1, ("a",), "y"))

    def test_beside_an_insert_of_section_6(self):
        for kind in [kind for kind in KINDS if 2 <= kind[0] <= 16]:
            names = sorted(some_names(kind[0], f"insert {kind}"))
            probes, rule = setting_of(*kind, names)
            table, layout = filled(kind, {}), (-1,) * kind[0]
            for key in random.Random(str(kind)).sample(range(len(names)), len(names)):
                table.put(names[key], "")
                layout = insert_by_words(probes, rule, layout, key)[0]
                self.assertEqual(table.layout(), tuple(names[held] if held != -1 else "" for held in layout))

    def test_results_are_not_the_table_itself(self):
        table = filled((4, "linear", "names"), {"a": "x"})
        layout, names, distances = table.layout(), table.names(), table.distances()
        table.put("b", "y")
        self.assertEqual((layout, names, distances), (("", "a", "", ""), ("a",), (("a", 0),)))

    def test_arguments_by_name(self):
        table = Table(4)
        table.put(value="x", name="a")
        self.assertEqual((table.value_of(name="a"), table.look_up(name="a")), ("x", (1, 1)))
        table.grow(count=8)
        table.add_all(other=table)
        self.assertEqual((table.slots(), table.take_out(name="a")), (8, "x"))


class NamesAndValuesTest(unittest.TestCase):

    def refuse(self, error, value, method, *values):
        found = error_of(method, *values)
        self.assertIs(found[0], error)
        self.assertIs(found[1][0], value)

    def tables(self):
        """An empty table, one with names, and a full one."""
        return [Table(2), filled((4, "linear", "farther"), {"a": "x", "hello": ""}),
                filled((2, "triangular", "names"), {"a": "x", "zzzzzzzz": "y"})]

    def test_any_name(self):
        for table in self.tables():
            before = state_of(table)
            for value in any_values():
                copied = copy.deepcopy(value)
                if not is_word(value, 1):
                    self.refuse(BadName, value, table.put, value, "x")
                    self.refuse(BadName, value, table.put, value, None)
                    for method in (table.value_of, table.take_out, table.look_up):
                        self.refuse(BadName, value, method, value)
                elif value not in table.names():
                    for method in (table.value_of, table.take_out):
                        self.refuse(Absent, value, method, value)
                    self.assertEqual(table.look_up(value)[0], -1)
                self.assertEqual(repr(value), repr(copied))
            self.assertEqual(state_of(table), before)

    def test_any_value(self):
        for table in self.tables():
            for name, value in itertools.product(("a", "b", "hello"), any_values()):
                before = state_of(table)
                if not is_word(value, 0):
                    self.refuse(BadValue, value, table.put, name, value)
                    self.assertEqual(state_of(table), before)
                elif name in table.names():
                    table.put(name, value)
                    self.assertIs(table.value_of(name), value)
                elif len(table) == table.slots():
                    self.assertEqual(error_of(table.put, name, value), (Full, ()))
                    self.assertEqual(state_of(table), before)

    def test_all_letters_and_all_other_signs(self):
        table = Table(2)
        for sign in map(chr, range(128)):
            for word in (sign, "ab" + sign + "c", sign + "bcdefgh", "abcdefg" + sign):
                if sign in LETTERS:
                    table.put(word, word)
                    self.assertEqual(table.take_out(word), word)
                else:
                    self.refuse(BadName, word, table.put, word, "")
                    self.refuse(BadValue, word, table.put, "a", word)
        self.assertEqual(len(table), 0)

    def test_all_lengths(self):
        table = Table(1)
        for length in range(20):
            word = "q" * length
            if 1 <= length <= 8:
                table.put(word, "")
                self.assertEqual(table.take_out(word), "")
            else:
                self.refuse(BadName, word, table.put, word, "")
            if length <= 8:
                table.put("a", word)
                self.assertEqual(table.take_out("a"), word)
            else:
                self.refuse(BadValue, word, table.put, "a", word)

    def test_errors_in_their_order(self):
        full = filled((1, "linear", "names"), {"a": "x"})
        self.refuse(BadName, "B", full.put, "B", "Y")
        self.refuse(BadValue, "Y", full.put, "b", "Y")
        self.assertEqual(error_of(full.put, "b", "y"), (Full, ()))
        self.refuse(BadValue, "Y", full.put, "a", "Y")
        self.assertEqual(state_of(full), state_of(filled((1, "linear", "names"), {"a": "x"})))

    def test_absent_names(self):
        for kind in FEW_KINDS:
            names = some_names(kind[0] + 5, f"absent {kind}")
            for many in {0, 1, kind[0]}:
                table = filled(kind, dict.fromkeys(names[:many], "x"))
                before = state_of(table)
                for name in names[many:]:
                    self.assertEqual(error_of(table.value_of, name), (Absent, (name,)))
                    self.assertEqual(error_of(table.take_out, name), (Absent, (name,)))
                self.assertEqual(state_of(table), before)


class GrowTest(unittest.TestCase):

    def test_to_all_numbers_of_slots(self):
        for kind in FEW_KINDS:
            names = some_names(kind[0], f"grow {kind}")
            for many, count in itertools.product({0, 1, kind[0] // 2, kind[0]}, (1, 2, 3, 4, 5, 8, 16, 21, 32, 63, 64)):
                self.check(kind, {name: name[:3] for name in names[:many]}, count)

    def check(self, kind, contents, count):
        table = filled(kind, contents)
        before = state_of(table)
        if kind[1] == "triangular" and count not in POWERS:
            self.assertEqual(error_of(table.grow, count), (BadCount, (count,)))
            self.assertEqual(state_of(table), before)
        elif len(contents) > count:
            self.assertEqual(error_of(table.grow, count), (TooFull, (len(contents),)))
            self.assertEqual(state_of(table), before)
        else:
            self.assertIsNone(table.grow(count))
            other = filled((count, *kind[1:]), contents)
            self.assertEqual(table, other)
            self.assertEqual(state_of(table), state_of(other))
            self.assertEqual(table.layout(), layout_by_names(count, *kind[1:], contents))
            self.go_on(table, count)

    def go_on(self, table, count):
        """A table that has grown goes on as one that was made so."""
        names = [name for name in some_names(3, "more") if name not in table.names()]
        if len(table) == count:
            self.assertEqual(error_of(table.put, names[0], ""), (Full, ()))
        else:
            table.put(names[0], "x")
            self.assertEqual(table.look_up(names[0])[0], table.layout().index(names[0]))
            self.assertEqual(table.take_out(names[0]), "x")

    def test_any_value(self):
        for kind in ((4, "linear", "names"), (8, "triangular", "farther")):
            table = filled(kind, {"a": "x", "b": "y"})
            before = state_of(table)
            for value in [-1, 0, 65, 128, *any_values()]:
                if type(value) is not int or not 1 <= value <= 64 or (kind[1] == "triangular" and value not in POWERS):
                    found = error_of(table.grow, value)
                    self.assertIs(found[0], BadCount)
                    self.assertIs(found[1][0], value)
                    self.assertEqual(state_of(table), before)

    def test_bad_count_comes_ahead_of_too_full(self):
        table = filled((4, "triangular", "names"), dict.fromkeys("abcd", ""))
        self.assertEqual(error_of(table.grow, 3), (BadCount, (3,)))
        self.assertEqual(error_of(table.grow, 2), (TooFull, (4,)))
        self.assertEqual(error_of(table.grow, 0), (BadCount, (0,)))
        self.assertIsNone(error_of(table.grow, 4))


class AddAllTest(unittest.TestCase):

    def check(self, kind, contents, other_kind, others):
        table, other = filled(kind, contents), filled(other_kind, others)
        before, other_before = state_of(table), state_of(other)
        together = {**contents, **others}
        if len(together) > kind[0]:
            self.assertEqual(error_of(table.add_all, other), (TooFull, (len(together),)))
            self.assertEqual(state_of(table), before)
        else:
            self.assertIsNone(table.add_all(other))
            self.assertEqual(state_of(table), state_of(filled(kind, together)))
            self.assertEqual(table.layout(), layout_by_names(*kind, together))
        self.assertEqual(state_of(other), other_before)

    def test_tables_of_all_kinds(self):
        for kind, other_kind in itertools.product(FEW_KINDS, [kind for kind in FEW_KINDS if kind[0] in (1, 4, 7, 64)]):
            choice = random.Random(f"{kind} {other_kind}")
            names = some_names(kind[0] + other_kind[0], str(kind))
            many = choice.choice([0, kind[0] // 2, kind[0]])
            contents = {name: some_value(choice) for name in names[:many]}
            # Some of the names are in both tables.
            first = choice.randint(0, many)
            last = first + choice.randint(0, other_kind[0])
            self.check(kind, contents, other_kind, {name: some_value(choice) for name in names[first:last]})

    def test_as_many_as_slots_and_one_more(self):
        for count in (1, 2, 5, 16, 63):
            names = some_names(count + 1, f"add {count}")
            for many, first in itertools.product({0, 1, count // 2, count}, {0, 1, count // 2}):
                if first <= many:
                    contents = dict.fromkeys(names[:many], "x")
                    for last in (count, count + 1):
                        others = dict.fromkeys(names[first:last], "y")
                        self.check((count, "linear", "names"), contents, (64, "triangular", "farther"), others)

    def test_values_of_the_other_table(self):
        one = filled((4, "linear", "names"), {"a": "x", "b": "y"})
        one.add_all(filled((2, "linear", "farther"), {"b": "z", "c": ""}))
        self.assertEqual([one.value_of(name) for name in one.names()], ["x", "z", ""])

    def test_a_table_put_into_itself(self):
        for kind in FEW_KINDS:
            for many in {0, 1, kind[0]}:
                table = filled(kind, {name: name[::-1] for name in some_names(many, f"itself {kind}")})
                before = state_of(table)
                self.assertIsNone(table.add_all(table))
                self.assertEqual(state_of(table), before)

    def test_a_full_table_of_the_same_names(self):
        names = some_names(8, "same")
        table = filled((8, "linear", "names"), dict.fromkeys(names, "x"))
        table.add_all(filled((64, "linear", "names"), dict.fromkeys(names, "y")))
        self.assertEqual({table.value_of(name) for name in names}, {"y"})


class CloneTest(unittest.TestCase):

    def test_the_same_content(self):
        for kind in KINDS:
            for many in {0, kind[0] // 2, kind[0]}:
                table = filled(kind, {name: name[1:] for name in some_names(many, f"clone {kind}")})
                twin = table.clone()
                self.assertIs(type(twin), Table)
                self.assertIsNot(twin, table)
                self.assertEqual(twin, table)
                self.assertEqual(state_of(twin), state_of(table))

    def test_independent(self):
        for kind in FEW_KINDS:
            contents = {name: "x" for name in some_names(kind[0], f"independent {kind}")}
            for change, first in itertools.product(range(4), (0, 1)):
                table = filled(kind, contents)
                before = state_of(table)
                pair = (table, table.clone())
                self.change(pair[first], min(contents), change)
                self.assertEqual(state_of(pair[1 - first]), before)
                self.assertNotEqual(*pair)
                self.change(pair[1 - first], min(contents), change)
                self.assertEqual(*pair)

    def change(self, table, name, change):
        if change == 0:
            table.put(name, "y")
        elif change == 1:
            table.take_out(name)
        elif change == 2:
            table.take_out(name)
            table.put("newname", "x")
        else:
            table.grow(64)
            table.put(name, "z")

    def test_the_table_changed_behind_its_clone(self):
        table = filled((4, "linear", "names"), {"a": "x", "e": "y"})
        twin = table.clone()
        table.take_out("a")
        table.put("e", "z")
        table.grow(8)
        self.assertEqual(twin, filled((4, "linear", "names"), {"a": "x", "e": "y"}))
        self.assertEqual(twin.layout(), ("", "a", "e", ""))


class EqualTest(unittest.TestCase):

    def test_each_difference(self):
        table = filled((4, "linear", "names"), {"a": "x", "b": "y"})
        same = filled((4, "linear", "names"), {"b": "y", "a": "x"})
        others = [
            filled((8, "linear", "names"), {"a": "x", "b": "y"}),
            filled((4, "triangular", "names"), {"a": "x", "b": "y"}),
            filled((4, "linear", "farther"), {"a": "x", "b": "y"}),
            filled((4, "linear", "names"), {"a": "x", "c": "y"}),
            filled((4, "linear", "names"), {"a": "x", "b": ""}),
            filled((4, "linear", "names"), {"a": "y", "b": "x"}),
            filled((4, "linear", "names"), {"a": "x"}),
            filled((4, "linear", "names"), {"a": "x", "b": "y", "c": "z"})]
        self.assertIs(table == same, True)
        self.assertIs(table != same, False)
        for other in others:
            self.assertIs(table == other, False)
            self.assertIs(other == table, False)
            self.assertIs(table != other, True)

    def test_empty_tables(self):
        for one, other in itertools.product(FEW_KINDS, repeat=2):
            self.assertIs(filled(one, {}) == filled(other, {}), one == other)

    def test_other_kinds_of_values(self):
        class Anything:
            def __eq__(self, other):
                return True

        for table in (Table(1), filled((4, "linear", "names"), {"a": "x"})):
            own = [table.layout(), table.names(), list(table.layout()), {"a": "x"}, len(table), state_of(table)]
            for value in [*any_values(), *own, object(), Table, Anything()]:
                self.assertIs(table == value, False)
                self.assertIs(table != value, True)
