"""A session, section 15 of the document."""

import copy
import itertools
import random
import unittest

from samelayout.errors import Absent, BadLine, BadText, Full, NotOrdered, Present, TooMany
from samelayout.inserting import insert
from samelayout.judging import judge, shows_unlike, unlike
from samelayout.reading import read_history, read_setting
from samelayout.removing import look_up, remove
from samelayout.rules import is_ordered
from samelayout.session import Session
from samelayout.showing import show_setting
from samelayout.stable import stable_layouts
from tests.values import (
    SIZES, blocks, error_of, keys_of, mixed_rule, ordered_rule, ordered_settings, other_kinds, rich_settings,
    ringed_rule, shuffled, some_probes, some_rule)

ALONE = ("show", "keys", "judge", "unlike", "stable")
WITH_KEY = ("insert", "remove", "find")
TEXT = "keys 2 slots 2\nprobe 0 1\nprobe 0 1\nbeats - 0\nbeats 1 -"
RINGED = "keys 3 slots 3\nprobe 0 1 2\nprobe 0 1 2\nprobe 0 1 2\nbeats 1 2 0\nbeats 1 2 0\nbeats 1 2 0"


def written(entries):
    return " ".join("-" if entry == -1 else str(entry) for entry in entries) or "-"


class Beside:
    """A session and what the functions say of the same lines."""

    def __init__(self, test, probes, rule):
        self.test, self.probes, self.rule = test, probes, rule
        self.session = Session(show_setting(probes, rule))
        self.layout = (-1,) * len(rule)

    def seen(self):
        return self.session.say("show"), self.session.say("keys")

    def expected(self):
        return written(self.layout), written(keys_of(self.layout))

    def check(self, line, error, answer):
        """A line, given the error that the functions raise and, if there is none, how to tell what they return."""
        if error is not None:
            self.test.assertEqual(error_of(self.session.say, line), error)
        else:
            found = self.session.say(line)
            self.test.assertIs(type(found), str)
            self.test.assertEqual(found, answer())
        self.test.assertEqual(self.seen(), self.expected())

    def insert(self, key):
        def answer():
            self.layout, path = insert(*values)
            return " ".join(f"{held}:{slot}" for held, slot in path)

        values = (self.probes, self.rule, self.layout, key)
        self.check(f"insert {key}", error_of(insert, *values), answer)

    def remove(self, key):
        def answer():
            self.layout = remove(*values)
            return "ok"

        values = (self.probes, self.rule, self.layout, key)
        self.check(f"remove {key}", error_of(remove, *values), answer)

    def find(self, key):
        def answer():
            slot, reads = look_up(*values)
            return "{} reads {}".format("-" if slot == -1 else slot, reads)

        values = (self.probes, self.rule, self.layout, key)
        self.check(f"find {key}", error_of(look_up, *values), answer)

    def judge(self):
        def answer():
            judgement = judge(self.rule)
            return judgement[0] if judgement[0] == "orders" else "ring {} {} {} {}".format(judgement[1], *judgement[2])

        self.check("judge", None, answer)

    def stable(self):
        values = (self.probes, self.rule, keys_of(self.layout))
        self.check("stable", error_of(stable_layouts, *values), lambda: str(len(stable_layouts(*values))))

    def unlike(self):
        error = error_of(unlike, self.probes, self.rule)
        if error is not None:
            self.test.assertEqual(error_of(self.session.say, "unlike"), error)
        else:
            self.check_unlike(self.session.say("unlike"))
        self.test.assertEqual(self.seen(), self.expected())

    def check_unlike(self, found):
        few = unlike(self.probes, self.rule)
        if few is None:
            self.test.assertEqual(found, "one")
        else:
            one, other = found.split(" / ")
            pair = (read_history(one), read_history(other))
            self.test.assertIs(shows_unlike(self.probes, self.rule, pair), True)
            self.test.assertEqual(len(pair[0]), len(few[0]))

    def go_on(self, steps, choice):
        """Lines of all forms, in some order; inserts come more often."""
        for step in range(steps):
            key = choice.randrange(len(self.probes))
            say = choice.choice((self.insert, self.insert, self.insert, self.remove, self.find))
            say(key)
            if choice.random() < 0.2:
                choice.choice((self.judge, self.stable))()


def settings(keys, slots):
    """Probes and rules, ordered ones and such with rings of keys."""
    yield from ordered_settings(((keys, slots),), (6,))
    yield some_probes(keys, slots), some_rule(keys, slots)
    yield some_probes(keys, slots), mixed_rule(keys, slots)
    if keys > 2:
        yield some_probes(keys, slots), ringed_rule(keys, slots, (slots - 1,))


class SayTest(unittest.TestCase):

    def test_small_settings(self):
        for keys, slots in itertools.product(range(1, 7), repeat=2):
            for probes, rule in settings(keys, slots):
                beside = Beside(self, probes, rule)
                beside.go_on(25, random.Random(f"{keys} {slots}"))
                beside.judge()
                beside.stable()
                if keys <= 5:
                    beside.unlike()

    def test_settings_of_all_sizes(self):
        for keys, slots in itertools.product((1, 3, 7, 8, 9, 12, 16), repeat=2):
            for probes, rule in list(settings(keys, slots))[::2]:
                beside = Beside(self, probes, rule)
                self.assertEqual(beside.seen(), beside.expected())
                beside.go_on(20, random.Random(f"{keys} {slots}"))

    def test_full_and_every_key(self):
        for size in SIZES:
            for probes, rule in list(settings(size, (size + 1) // 2))[:3] + list(settings(size, size))[2:]:
                beside = Beside(self, probes, rule)
                for key in shuffled(size, "insert"):
                    beside.insert(key)
                for key in range(size):
                    beside.insert(key)
                    beside.find(key)
                for key in shuffled(size, "remove"):
                    beside.remove(key)
                    beside.remove(key)

    def test_several_stable_layouts(self):
        for probes, rule in rich_settings():
            beside = Beside(self, probes, rule)
            for key in range(len(probes)):
                beside.stable()
                beside.insert(key)
            beside.stable()
            beside.judge()
            beside.unlike()
        session = Session(show_setting(*blocks((2, 3))))
        for key in range(5):
            session.say(f"insert {key}")
        self.assertEqual(session.say("stable"), "6")

    def test_unlike(self):
        found = set()
        for keys, slots in itertools.product(range(1, 6), repeat=2):
            for probes, rule in settings(keys, slots):
                beside = Beside(self, probes, rule)
                beside.unlike()
                beside.insert(0)
                beside.unlike()
                found.add(beside.session.say("unlike") == "one")
        self.assertEqual(found, {True, False})

    def test_eight_keys_are_not_too_many_for_unlike(self):
        for rule in (ordered_rule(8, 2), ringed_rule(8, 3, (1,))):
            Beside(self, some_probes(8, len(rule)), rule).unlike()

    def test_too_many(self):
        for keys in range(9, 17):
            session = Session(show_setting(some_probes(keys, 8), ordered_rule(keys, 8)))
            self.assertEqual(error_of(session.say, "unlike"), (TooMany, (keys,)))
            for key in range(7):
                session.say(f"insert {key}")
            self.assertIsNone(error_of(session.say, "stable"))
            session.say("insert 7")
            before = session.say("show")
            self.assertEqual(error_of(session.say, "stable"), (TooMany, (8,)))
            self.assertEqual(session.say("show"), before)

    def test_not_ordered(self):
        for keys, slots in ((3, 1), (3, 3), (9, 9), (16, 16)):
            for slot in {0, slots // 2, slots - 1}:
                session = Session(show_setting(some_probes(keys, slots), ringed_rule(keys, slots, (slot,))))
                session.say(f"insert {keys - 1}")
                before = session.say("show")
                for line in ("remove 0", f"remove {keys - 1}", "find 0", f"find {keys - 1}", "stable"):
                    self.assertEqual(error_of(session.say, line), (NotOrdered, (slot,)), line)
                self.assertEqual(session.say("show"), before)
                self.assertEqual(session.say("keys"), str(keys - 1))
                self.assertEqual(session.say("judge").split(" ")[:2], ["ring", str(slot)])

    def test_present_full_absent(self):
        session = Session("keys 3 slots 2\nprobe 0 1\nprobe 0 1\nprobe 1 0\nbeats 1,2 2 -\nbeats 1,2 2 -")
        self.assertEqual(error_of(session.say, "remove 2"), (Absent, (2,)))
        self.assertEqual([session.say("insert 1"), session.say("insert 0")], ["1:0", "0:0 1:1"])
        self.assertEqual(error_of(session.say, "insert 1"), (Present, (1,)))
        self.assertEqual(error_of(session.say, "insert 2"), (Full, ()))
        self.assertEqual(error_of(session.say, "remove 2"), (Absent, (2,)))
        self.assertEqual([session.say("show"), session.say("find 2"), session.say("keys")], ["0 1", "- reads 2", "0 1"])
        self.assertEqual([session.say("remove 0"), session.say("show"), session.say("keys")], ["ok", "1 -", "1"])
        self.assertEqual([session.say("remove 1"), session.say("show"), session.say("keys")], ["ok", "- -", "-"])

    def test_a_rule_with_a_ring_of_keys(self):
        session = Session(RINGED)
        self.assertEqual([session.say(f"insert {key}") for key in (0, 1, 2)], ["0:0", "1:1", "2:0 0:1 1:2"])
        self.assertEqual([session.say("show"), session.say("keys")], ["2 0 1", "0 1 2"])
        self.assertIn(session.say("judge"), ("ring 0 0 1 2", "ring 0 1 2 0", "ring 0 2 0 1"))

    def test_two_sessions_are_independent(self):
        one, other = Session(TEXT), Session(TEXT)
        one.say("insert 1")
        self.assertEqual((one.say("show"), other.say("show")), ("1 -", "- -"))

    def test_arguments_by_name(self):
        session = Session(source=TEXT)
        self.assertEqual([session.say(line="insert 1"), session.say(line="show")], ["1:0", "1 -"])


class BadLineTest(unittest.TestCase):

    def refuse(self, session, value):
        before = session.say("show"), session.say("keys")
        copied = copy.deepcopy(value)
        with self.assertRaises(BadLine) as caught:
            session.say(value)
        self.assertIs(type(caught.exception), BadLine)
        self.assertIs(caught.exception.line, value)
        self.assertEqual(repr(value), repr(copied))
        self.assertEqual((session.say("show"), session.say("keys")), before)

    def sessions(self):
        """Sessions with an empty layout and with another one, with an ordered rule and with a ring of keys."""
        for text in (TEXT, RINGED):
            yield Session(text)
            session = Session(text)
            session.say("insert 1")
            yield session

    def test_values_that_are_no_strings(self):
        more = [("show",), ["show"], {"show": 1}, [("insert", 0)], ("insert", 0), ("insert", "0"), ["insert", "0"]]
        for session in self.sessions():
            for value in other_kinds() + more:
                self.refuse(session, value)

    def test_other_words(self):
        for session in self.sessions():
            for word in ("", " ", "look_up", "Show", "SHOW", "shows", "sho", "exit", "help", "layout", "orders", "one",
                         "ok", "0", "-", "put", "fill", "best", "insert", "remove", "find", "\n", "show\n", "\nshow",
                         "show\t", "keys\r", "insert\t0", "insert\n0", "insert0", "insert,0", "show;", "none", "None"):
                self.refuse(session, word)

    def test_more_words_and_fewer(self):
        for session in self.sessions():
            for word in ALONE:
                for line in (f"{word} 0", f"{word} {word}", f"{word} ", f" {word}", f"{word}  ", f"{word} -"):
                    self.refuse(session, line)
            for word in WITH_KEY:
                for line in (word, f"{word} ", f"{word} 0 1", f"{word} 0 0", f"{word}  0", f" {word} 0", f"{word} 0 ",
                             f"{word} 0\n", f"0 {word}", f"{word} {word}", f"{word} 0,1", f"{word.upper()} 0"):
                    self.refuse(session, line)

    def test_keys_out_of_range_and_not_so_written(self):
        for keys, slots in itertools.product((1, 2, 10, 11, 16), (1, 16)):
            session = Session(show_setting(some_probes(keys, slots), ordered_rule(keys, slots)))
            words = [str(keys), str(keys + 1), "-1", "16", "17", "100", "00", "01", "000", "+0", "-0", "0.", "0x0",
                     "1_0", "a", "-", "", "0\t", "9" * 5000, "None", "010", "'0'", "(0)"]
            for word, key in itertools.product(WITH_KEY, words):
                if key not in map(str, range(keys)):
                    self.refuse(session, f"{word} {key}")
            for word, key in itertools.product(WITH_KEY, range(keys)):
                error = error_of(session.say, f"{word} {key}")
                self.assertTrue(error is None or error[0] is not BadLine)

    def test_ahead_of_all_other_errors(self):
        session = Session(RINGED)
        session.say("insert 0")
        for line in ("remove 3", "find 03", "insert 00", "stable 0", "remove 0 "):
            self.refuse(session, line)
        full = Session("keys 1 slots 1\nprobe 0\nbeats -")
        full.say("insert 0")
        for line in ("insert 1", "insert 00", "remove 1"):
            self.refuse(full, line)

    def test_lines_changed_anywhere(self):
        good = {*ALONE, *(f"{word} {key}" for word in WITH_KEY for key in (0, 1, 2))}
        session = Session(RINGED)
        for line in sorted(good):
            for at in range(len(line) + 1):
                for changed in [line[:at] + line[at + 1:], *(line[:at] + sign + line[at + more:]
                                                             for sign in "0123 -ks\n" for more in (0, 1))]:
                    if changed not in good:
                        self.refuse(session, changed)


class BadTextTest(unittest.TestCase):

    def test_as_read_setting(self):
        texts = [TEXT[:at] + TEXT[at + 1:] for at in range(len(TEXT))] + [TEXT[:at] for at in range(len(TEXT))]
        texts += [TEXT[:at] + sign + TEXT[at:] for at in range(len(TEXT)) for sign in "0 -,\n"]
        found = set()
        for text in texts + [TEXT, RINGED, TEXT + "\n", RINGED + " "]:
            expected = error_of(read_setting, text)
            self.assertEqual(error_of(Session, text), expected)
            found.add(expected)
        self.assertEqual(found, {None, *((BadText, (line,)) for line in range(7))})

    def test_values_that_are_no_strings(self):
        for value in other_kinds():
            if not isinstance(value, str):
                self.assertEqual(error_of(Session, value), (BadText, (0,)))

    def test_empty_at_first(self):
        for keys, slots in itertools.product(SIZES, SIZES):
            rule = some_rule(keys, slots)
            session = Session(show_setting(some_probes(keys, slots), rule))
            self.assertEqual((session.say("show"), session.say("keys")), (" ".join("-" * slots), "-"))
            if is_ordered(rule):
                self.assertEqual((session.say("stable"), session.say("find 0")), ("1", "- reads 1"))
