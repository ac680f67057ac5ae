"""The names and the arguments that the document lists."""

import importlib
import inspect
import unittest

FUNCTIONS = {
    "probes": {
        "is_probe_order": "count value", "linear": "count home", "stepped": "count home step",
        "triangular": "count home"},
    "rules": {
        "are_probes": "value", "is_rule": "value", "rule_of_orders": "orders", "order_at": "rule slot",
        "ring_at": "rule slot", "is_ordered": "rule", "farther_rule": "probes"},
    "inserting": {"insert": "probes rule layout key", "layout_of": "probes rule history"},
    "judging": {
        "judge": "rule", "shows_judgement": "rule value", "unlike_somewhere": "rule",
        "shows_unlike": "probes rule value", "unlike": "probes rule", "all_layouts": "probes rule",
        "shows_layouts": "probes rule value"},
    "stable": {
        "is_stable": "probes rule layout", "best": "probes rule keys", "worst": "probes rule keys",
        "stable_layouts": "probes rule keys", "each_earlier": "probes one other", "each_later": "probes one other"},
    "rings": {
        "next_key": "probes rule layout slot", "rings": "probes rule layout", "exchange": "probes rule layout ring",
        "rings_to_best": "probes rule layout"},
    "removing": {
        "fill": "probes rule layout key", "remove": "probes rule layout key", "look_up": "probes rule layout key"},
    "linear": {
        "flows": "counts", "taken": "counts", "distance_sum": "counts", "greatest_distance": "counts",
        "square_sum": "counts"},
    "runs": {
        "run_flow": "runs slot", "run_taken": "runs slot", "run_distance_sum": "runs", "run_greatest": "runs"},
    "showing": {"show_setting": "probes rule", "show_layout": "layout", "show_history": "history"},
    "reading": {"read_setting": "source", "read_layout": "source", "read_history": "source"},
}
METHODS = {
    ("table", "Table"): {
        "put": "name value", "value_of": "name", "take_out": "name", "look_up": "name", "names": "", "layout": "",
        "__len__": "", "slots": "", "distances": "", "grow": "count", "add_all": "other", "clone": "",
        "__eq__": "other"},
    ("session", "Session"): {"__init__": "source", "say": "line"},
}


class InterfaceTest(unittest.TestCase):

    def check_arguments(self, function, names):
        parameters = inspect.signature(function).parameters.values()
        self.assertEqual([parameter.name for parameter in parameters], names)
        for parameter in parameters:
            self.assertEqual(parameter.kind, inspect.Parameter.POSITIONAL_OR_KEYWORD)
            self.assertIs(parameter.default, inspect.Parameter.empty)

    def test_functions_and_their_arguments(self):
        for module, functions in FUNCTIONS.items():
            found = importlib.import_module("samelayout." + module)
            for name, arguments in functions.items():
                with self.subTest(module=module, name=name):
                    function = getattr(found, name)
                    self.assertEqual(function.__module__, "samelayout." + module)
                    self.check_arguments(function, arguments.split())

    def test_methods_stand_in_the_class_itself(self):
        for (module, name), methods in METHODS.items():
            found = getattr(importlib.import_module("samelayout." + module), name)
            self.assertEqual((found.__module__, found.__bases__), ("samelayout." + module, (object,)))
            for method, arguments in methods.items():
                with self.subTest(name=name, method=method):
                    self.check_arguments(vars(found)[method], ["self", *arguments.split()])

    def test_how_a_table_is_made(self):
        found = vars(importlib.import_module("samelayout.table").Table)["__init__"]
        self.assertEqual(str(inspect.signature(found)), "(self, count, *, way='linear', rule='names')")

    def test_all_modules_of_the_document(self):
        listed = {*FUNCTIONS, "errors", *(module for module, name in METHODS)}
        self.assertEqual(listed, {
            "errors", "probes", "rules", "inserting", "judging", "stable", "rings", "removing", "linear", "runs",
            "table", "showing", "reading", "session"})
