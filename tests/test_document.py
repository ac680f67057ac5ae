"""The examples of the document, as they stand there."""

import doctest
import pathlib
import unittest

PROBES = """
>>> from samelayout.probes import is_probe_order, linear, stepped, triangular
>>> [linear(4, 2), stepped(5, 1, 2), triangular(4, 0), is_probe_order(2, (1, 1))]
[(2, 3, 0, 1), (1, 3, 0, 2, 4), (0, 1, 3, 2), False]
"""

RULES = """
>>> from samelayout.rules import rule_of_orders, order_at, ring_at
>>> ringed = (((1,), (2,), (0,)),) * 3
>>> [rule_of_orders(((0, 2, 1), (1, 2, 0)))[0], order_at(ringed, 0), order_at(rule_of_orders(((2, 0, 1),)), 0)]
[((1, 2), (), (1,)), None, (2, 0, 1)]
"""

FARTHER = """
>>> from samelayout.rules import farther_rule
>>> farther_rule(((0, 1), (1, 0), (0, 1)))
(((2,), (0, 2), ()), ((1, 2), (), (1,)))
"""


class DocumentTest(unittest.TestCase):

    def check(self, text):
        example = doctest.DocTestParser().get_doctest(text, {}, "example", None, 0)
        told = []
        result = doctest.DocTestRunner(verbose=False).run(example, out=told.append)
        self.assertEqual((result.failed, "".join(told)), (0, ""))
        self.assertGreater(result.attempted, 1)

    def test_probe_orders(self):
        self.check(PROBES)

    def test_rules(self):
        self.check(RULES)

    def test_farther_rule(self):
        self.check(FARTHER)

    def test_readme(self):
        readme = pathlib.Path(__file__).resolve().parent.parent / "README.md"
        self.check(readme.read_text(encoding="utf-8").replace("```", ""))
