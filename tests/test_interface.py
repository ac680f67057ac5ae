"""The names and the arguments that the document lists, as far as they have landed."""

import importlib
import inspect
import unittest

FUNCTIONS = {
    "probes": {
        "is_probe_order": "count value", "linear": "count home", "stepped": "count home step",
        "triangular": "count home"},
    "rules": {
        "are_probes": "value", "is_rule": "value", "rule_of_orders": "orders", "order_at": "rule slot",
        "ring_at": "rule slot", "is_ordered": "rule", "farther_rule": "probes"},
    "inserting": {"insert": "probes rule layout key", "layout_of": "probes rule history"},
    "judging": {
        "judge": "rule", "shows_judgement": "rule value", "unlike_somewhere": "rule",
        "shows_unlike": "probes rule value", "unlike": "probes rule", "all_layouts": "probes rule",
        "shows_layouts": "probes rule value"},
    "stable": {
        "is_stable": "probes rule layout", "best": "probes rule keys", "worst": "probes rule keys",
        "stable_layouts": "probes rule keys", "each_earlier": "probes one other", "each_later": "probes one other"},
    "rings": {
        "next_key": "probes rule layout slot", "rings": "probes rule layout", "exchange": "probes rule layout ring",
        "rings_to_best": "probes rule layout"},
    "removing": {
        "fill": "probes rule layout key", "remove": "probes rule layout key", "look_up": "probes rule layout key"},
    "linear": {
        "flows": "counts", "taken": "counts", "distance_sum": "counts", "greatest_distance": "counts",
        "square_sum": "counts"},
    "runs": {
        "run_flow": "runs slot", "run_taken": "runs slot", "run_distance_sum": "runs", "run_greatest": "runs"},
}


class InterfaceTest(unittest.TestCase):

    def test_functions_and_their_arguments(self):
        for module, functions in FUNCTIONS.items():
            found = importlib.import_module("samelayout." + module)
            for name, arguments in functions.items():
                with self.subTest(module=module, name=name):
                    function = getattr(found, name)
                    self.assertEqual(function.__module__, "samelayout." + module)
                    parameters = inspect.signature(function).parameters.values()
                    self.assertEqual([parameter.name for parameter in parameters], arguments.split())
                    for parameter in parameters:
                        self.assertEqual(parameter.kind, inspect.Parameter.POSITIONAL_OR_KEYWORD)
                        self.assertIs(parameter.default, inspect.Parameter.empty)
