"""Written forms, section 14 of the document."""

import copy
import itertools
import random
import re
import unittest

from samelayout.errors import BadText
from samelayout.reading import read_history, read_layout, read_setting
from samelayout.rules import are_probes, farther_rule, is_rule, rule_of_orders
from samelayout.showing import show_history, show_layout, show_setting
from tests.values import (
    SIZES, error_of, mixed_rule, ordered_rule, other_kinds, placements, ringed_rule, sets_of, shuffled, some_probes,
    some_rule)

NUMBER = "(?:0|[1-9][0-9]*)"
SIGNS = "0123456789 -,\n\tkpbaz+_."
SMALL_TEXT = "keys 2 slots 3\nprobe 0 1 2\nprobe 2 0 1\nbeats 1 -\nbeats - 0\nbeats - 0"


def lines_by_words(probes, rule):
    """The lines of a setting, by the words of section 14."""
    lines = ["keys {} slots {}".format(len(probes), len(rule))]
    for order in probes:
        lines.append("probe" + "".join(" {}".format(slot) for slot in order))
    for table in rule:
        line = "beats"
        for beaten in table:
            line += " " + (repr(beaten).strip("(,)").replace(" ", "") or "-")
        lines.append(line)
    return lines


def sizes_by_words(line):
    """The numbers of keys and slots, or None."""
    found = re.fullmatch(f"keys ({NUMBER}) slots ({NUMBER})", line)
    if found is None or any(len(number) > 2 or not 1 <= int(number) <= 16 for number in found.groups()):
        return None
    return tuple(int(number) for number in found.groups())


def order_by_words(line, slots):
    """The probe order that a line writes, or None."""
    if re.fullmatch(f"probe( {NUMBER})+", line) is None:
        return None
    words = line.split()[1:]
    if sorted(words) != sorted(str(slot) for slot in range(slots)):
        return None
    return tuple(int(word) for word in words)


def table_by_words(line, keys):
    """The table that a line writes, or None."""
    if re.fullmatch(f"beats( (-|{NUMBER}(,{NUMBER})*))+", line) is None:
        return None
    rows = [[] if word == "-" else word.split(",") for word in line.split()[1:]]
    if len(rows) != keys or not all(word in map(str, range(keys)) for row in rows for word in row):
        return None
    table = tuple(tuple(int(word) for word in row) for row in rows)
    if any(list(row) != sorted(set(row)) or key in row for key, row in enumerate(table)):
        return None
    for a, b in itertools.combinations(range(keys), 2):
        if (b in table[a]) + (a in table[b]) != 1:
            return None
    return table


def read_by_words(text):
    """The setting that a text writes, or the index of the first line that is not so written."""
    lines = text.split("\n")
    sizes = sizes_by_words(lines[0])
    if sizes is None:
        return 0
    keys, slots = sizes
    wanted = [(order_by_words, slots)] * keys + [(table_by_words, keys)] * slots
    found = []
    for at, (reader, size) in enumerate(wanted, 1):
        if at >= len(lines):
            return len(lines)
        found.append(reader(lines[at], size))
        if found[-1] is None:
            return at
    if len(lines) > len(wanted) + 1:
        return len(wanted) + 1
    return tuple(found[:keys]), tuple(found[keys:])


def settings(keys, slots):
    probes = some_probes(keys, slots)
    yield probes, ordered_rule(keys, slots)
    yield probes, some_rule(keys, slots)
    yield probes, farther_rule(probes)
    yield tuple(shuffled(slots, key % 2) for key in range(keys)), mixed_rule(keys, slots)
    if keys > 2:
        yield probes, ringed_rule(keys, slots, (slots - 1,))


def changed_anywhere(text, signs):
    """The text with a sign left out, put in or replaced, everywhere."""
    for at in range(len(text) + 1):
        for sign in signs:
            yield text[:at] + sign + text[at:]
            if at < len(text):
                yield text[:at] + sign + text[at + 1:]
        if at < len(text):
            yield text[:at] + text[at + 1:]
            yield text[:at] + text[at:at + 1] + text[at:]
        yield text[:at]


def with_lines_changed(text):
    """The text with lines left out, twice, exchanged or empty, and with words left out, twice or exchanged."""
    lines = text.split("\n")
    for at, line in enumerate(lines):
        yield "\n".join(lines[:at] + lines[at + 1:])
        yield "\n".join(lines[:at] + [line] + lines[at:])
        yield "\n".join(lines[:at] + [""] + lines[at:])
        for changed in words_changed(line):
            yield "\n".join(lines[:at] + [changed] + lines[at + 1:])
        for other in range(at):
            rows = list(lines)
            rows[at], rows[other] = rows[other], rows[at]
            yield "\n".join(rows)
    yield text + "\n"
    yield "\n" + text
    yield text + "\n" + lines[-1]
    yield text + "\n" + text


def words_changed(line):
    words = line.split(" ")
    for at, word in enumerate(words):
        for row in (words[:at] + words[at + 1:], words[:at] + [word] + words[at:], words[:at] + [""] + words[at:]):
            yield " ".join(row)
        for other in ("0" + word, "00", word.upper(), "-1", "+1", "15", "16", "17", "100", "9" * 5000, "-", "--", ",",
                      word + ",", "," + word, word + "," + word, "probe", "beats", "keys", "slots", "1_0", "1.0"):
            yield " ".join(words[:at] + [other] + words[at + 1:])
    if len(words) > 2:
        yield " ".join(words[:1] + words[:0:-1])
    yield line + " "
    yield " " + line
    yield line + " 0"
    yield line + "\t"
    yield line + "\r"
    yield line.replace(" ", "  ")
    yield line.replace(" ", "\t")
    yield line.replace(",", ", ")


class SettingTest(unittest.TestCase):

    def check_text(self, text):
        """What read_setting makes of a text; whether it is a setting."""
        expected = read_by_words(text)
        if isinstance(expected, int):
            self.assertEqual(error_of(read_setting, text), (BadText, (expected,)), text)
            return False
        found = read_setting(text)
        self.assertEqual(repr(found), repr(expected))
        self.assertEqual(show_setting(*found), text)
        return True

    def test_there_and_back(self):
        for keys, slots in itertools.product(SIZES, SIZES):
            for probes, rule in settings(keys, slots):
                before = repr((probes, rule))
                text = show_setting(probes, rule)
                self.assertIs(type(text), str)
                self.assertEqual(text, "\n".join(lines_by_words(probes, rule)))
                self.assertEqual(repr(read_setting(text)), repr((probes, rule)))
                self.assertEqual(read_by_words(text), (probes, rule))
                self.assertEqual(repr((probes, rule)), before)

    def test_what_is_read_is_a_setting(self):
        for keys, slots in ((1, 1), (1, 16), (16, 1), (3, 4)):
            for setting in settings(keys, slots):
                probes, rule = read_setting(show_setting(*setting))
                self.assertTrue(are_probes(probes) and is_rule(rule))

    def test_texts_changed_anywhere(self):
        texts = [SMALL_TEXT, "keys 1 slots 1\nprobe 0\nbeats -"]
        for keys, slots in ((1, 2), (3, 1), (3, 2)):
            texts += [show_setting(*setting) for setting in settings(keys, slots)]
        found = [self.check_text(changed) for text in texts for changed in changed_anywhere(text, SIGNS)]
        # A text may be changed into another setting.
        self.assertGreater(found.count(True), 10)
        self.assertGreater(found.count(False), 10000)

    def test_long_texts_changed_somewhere(self):
        choice = random.Random(4)
        for keys, slots in ((16, 16), (16, 3), (3, 16), (11, 12)):
            for setting in settings(keys, slots):
                text = show_setting(*setting)
                for turn in range(60):
                    at, sign = choice.randrange(len(text)), choice.choice(SIGNS)
                    self.check_text(text[:at] + text[at + choice.randrange(3):])
                    self.check_text(text[:at] + sign + text[at + choice.randrange(2):])

    def test_lines_and_words_changed(self):
        for keys, slots in ((1, 1), (2, 2), (3, 2), (2, 5), (4, 3), (16, 2), (2, 16), (12, 12)):
            for setting in list(settings(keys, slots))[:2]:
                for text in with_lines_changed(show_setting(*setting)):
                    self.check_text(text)

    def test_two_changes(self):
        # The first of two bad lines counts.
        lines = SMALL_TEXT.split("\n")
        for one, other in itertools.combinations(range(len(lines)), 2):
            for bad in ("", "x", lines[0] + " ", "probe 0 0 0", "beats 0 1"):
                changed = list(lines)
                changed[one] = changed[other] = bad
                self.assertEqual(error_of(read_setting, "\n".join(changed)), (BadText, (one,)))

    def test_too_few_lines(self):
        for keys, slots in itertools.product((1, 2, 7, 16), repeat=2):
            lines = show_setting(some_probes(keys, slots), some_rule(keys, slots)).split("\n")
            for many in range(1, len(lines)):
                self.assertEqual(error_of(read_setting, "\n".join(lines[:many])), (BadText, (many,)))
                # A feed at the end makes a last, empty line, which is not so written.
                self.assertEqual(error_of(read_setting, "\n".join(lines[:many]) + "\n"), (BadText, (many,)))
                self.assertEqual(error_of(read_setting, "\n".join(lines[:many] + ["x"])), (BadText, (many,)))

    def test_lines_behind_the_last_one(self):
        for keys, slots in itertools.product((1, 2, 16), repeat=2):
            text = show_setting(some_probes(keys, slots), some_rule(keys, slots))
            for more in ("\n", "\n\n", "\n ", "\nbeats -", "\n" + text, "\n" + text.split("\n")[-1]):
                self.assertEqual(error_of(read_setting, text + more), (BadText, (1 + keys + slots,)))

    def test_the_empty_string_has_one_line(self):
        for text in ("", "\n", "\n" + SMALL_TEXT, " ", "\n\n\n"):
            self.assertEqual(error_of(read_setting, text), (BadText, (0,)))

    def test_sizes_at_their_limits(self):
        for keys, slots in itertools.product(range(-1, 19), repeat=2):
            expected = (BadText, (1 if 1 <= keys <= 16 and 1 <= slots <= 16 else 0,))
            self.assertEqual(error_of(read_setting, f"keys {keys} slots {slots}"), expected)
        for size in ("01", "001", "+1", "1.0", "1_0", "", "-", "x", "1,", "1e1", "0x1", "9" * 5000):
            for line in (f"keys {size} slots 1", f"keys 1 slots {size}"):
                self.assertEqual(error_of(read_setting, line), (BadText, (0,)))

    def test_seventeen_keys_or_slots_are_shown_but_not_read(self):
        for keys, slots in ((17, 2), (2, 17), (17, 17)):
            probes, rule = some_probes(keys, slots), ordered_rule(keys, slots)
            text = show_setting(probes, rule)
            self.assertEqual(text, "\n".join(lines_by_words(probes, rule)))
            self.assertEqual(error_of(read_setting, text), (BadText, (0,)))

    def test_slots_and_keys_at_their_limits(self):
        lines = ["keys 2 slots 3", "probe 0 1 2", "probe 2 0 1", "beats 1 -", "beats - 0", "beats - 0"]
        for at, bad in ((1, "probe 0 1 3"), (2, "probe -1 0 1"), (1, "probe 0 1"), (2, "probe 0 1 2 3"),
                        (1, "probe 1 2 3"), (2, "probe 0 0 1"), (1, "probe"), (3, "beats 2 -"), (4, "beats - -"),
                        (5, "beats 1 0"), (3, "beats 0 -"), (4, "beats 1,1 -"), (5, "beats 0,1 -"), (3, "beats 1"),
                        (4, "beats - 0 -"), (5, "beats"), (3, "beats 01 -"), (1, "probe 00 1 2"), (2, "beats 1 -"),
                        (3, "probe 0 1 2"), (4, "beats  -"), (1, "Probe 0 1 2"), (3, "beat 1 -")):
            text = "\n".join(lines[:at] + [bad] + lines[at + 1:])
            self.assertEqual(error_of(read_setting, text), (BadText, (at,)), bad)
        self.assertEqual(read_setting("\n".join(lines)), (((0, 1, 2), (2, 0, 1)), (((1,), ()), ((), (0,)), ((), (0,)))))

    def test_keys_that_are_not_ascending(self):
        text = "keys 3 slots 1\nprobe 0\nprobe 0\nprobe 0\nbeats "
        self.assertEqual(read_setting(text + "1,2 2 -")[1], rule_of_orders(((0, 1, 2),)))
        self.assertEqual(read_setting(text + "1 2 0")[1], (((1,), (2,), (0,)),))
        for bad in ("2,1 2 -", "1,1 2 -", "1,2 2", "1,2 2 -,", "1,,2 2 -", ",1,2 2 -", "1, 2 2 -", "1,2 - -",
                    "1,2 2 0"):
            self.assertEqual(error_of(read_setting, text + bad), (BadText, (4,)), bad)

    def test_values_that_are_no_strings(self):
        probes, rule = read_setting(SMALL_TEXT)
        for value in [*other_kinds(), (probes, rule), [SMALL_TEXT], (SMALL_TEXT,), {SMALL_TEXT: 1}]:
            before = copy.deepcopy(value)
            for function in (read_setting, read_layout, read_history):
                if not isinstance(value, str):
                    self.assertEqual(error_of(function, value), (BadText, (0,)))
            self.assertEqual(repr(value), repr(before))

    def test_arguments_by_name(self):
        probes, rule = read_setting(source=SMALL_TEXT)
        self.assertEqual(show_setting(rule=rule, probes=probes), SMALL_TEXT)
        self.assertEqual(read_layout(source=show_layout(layout=(1, -1))), (1, -1))
        self.assertEqual(read_history(source=show_history(history=(1, 0))), (1, 0))


def layout_of_text(text):
    """The layout that a text writes, or None."""
    if re.fullmatch(f"(-|{NUMBER})( (-|{NUMBER}))*", text) is None:
        return None
    words = text.split(" ")
    keys = [word for word in words if word != "-"]
    if len(words) > 16 or len(set(keys)) < len(keys) or any(word not in map(str, range(16)) for word in keys):
        return None
    return tuple(-1 if word == "-" else int(word) for word in words)


def history_of_text(text):
    """The history that a text writes, or None."""
    if text == "-":
        return ()
    layout = layout_of_text(text)
    return None if layout is None or -1 in layout else layout


class LayoutAndHistoryTest(unittest.TestCase):

    def check(self, function, expected, text):
        found = expected(text)
        if found is None:
            self.assertEqual(error_of(function, text), (BadText, (0,)), text)
        else:
            self.assertEqual(repr(function(text)), repr(found))

    def layouts(self):
        """Layouts of 1 to 16 slots, with no key, some and as many as there can be."""
        for slots in SIZES:
            for keys in range(slots + 1):
                chosen = shuffled(16, f"{slots} {keys}")[:keys] + (-1,) * (slots - keys)
                yield tuple(chosen[at] for at in shuffled(slots, keys))

    def test_layouts_there_and_back(self):
        small = [layout for keys in sets_of(range(3), 3) for slots in range(max(1, len(keys)), 5)
                 for layout in placements(keys, slots)]
        for layout in [*small, *self.layouts()]:
            text = show_layout(layout)
            self.assertEqual(text, "".join(f" {entry}" for entry in layout).replace("-1", "-")[1:])
            self.assertEqual(repr(read_layout(text)), repr(layout))

    def test_histories_there_and_back(self):
        self.assertEqual((show_history(()), repr(read_history("-"))), ("-", "()"))
        for many in range(1, 17):
            for seed in range(5):
                history = shuffled(16, f"{many} {seed}")[:many]
                text = show_history(history)
                self.assertEqual(text, "".join(f" {key}" for key in history)[1:])
                self.assertEqual(repr(read_history(text)), repr(history))

    def test_texts_changed_anywhere(self):
        texts = ["-", "0", "15", "- -", "3 - 0", "10 1 - 2 15", "1 2 3", show_layout(tuple(range(16))),
                 show_layout((-1,) * 16), show_layout((15,) + (-1,) * 14 + (0,))]
        for text in texts:
            for changed in [*changed_anywhere(text, SIGNS), *words_changed(text)]:
                self.check(read_layout, layout_of_text, changed)
                self.check(read_history, history_of_text, changed)

    def test_texts_of_few_signs(self):
        for length in range(6):
            for signs in itertools.product("01- ", repeat=length):
                self.check(read_layout, layout_of_text, "".join(signs))
                self.check(read_history, history_of_text, "".join(signs))

    def test_limits(self):
        for text in ("16", "0 16", "-1", "0 0", "3 - 3", "", " ", "- ", " -", "0  1", "00", "01", "0\n", "\n0", "0,1",
                     "--", "x", "-0", "9" * 5000, " ".join(["-"] * 17), " ".join(map(str, range(17)))):
            self.assertEqual(error_of(read_layout, text), (BadText, (0,)), text)
            self.assertEqual(error_of(read_history, text), (BadText, (0,)), text)
        for text in ("- -", "- 0", "0 -", " ".join(["-"] * 16)):
            self.assertIsNone(error_of(read_layout, text))
            self.assertEqual(error_of(read_history, text), (BadText, (0,)), text)
        self.assertEqual(read_layout("-"), (-1,))

    def test_more_than_sixteen_are_shown(self):
        self.assertEqual(show_layout((16, -1) + (-1,) * 15), "16" + " -" * 16)
        self.assertEqual(show_history(tuple(range(17))), " ".join(map(str, range(17))))
