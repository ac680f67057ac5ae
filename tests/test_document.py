"""The examples of the document, as they stand there."""

import doctest
import pathlib
import unittest

PROBES = """
>>> from samelayout.probes import is_probe_order, linear, stepped, triangular
>>> [linear(4, 2), stepped(5, 1, 2), triangular(4, 0), is_probe_order(2, (1, 1))]
[(2, 3, 0, 1), (1, 3, 0, 2, 4), (0, 1, 3, 2), False]
"""

RULES = """
>>> from samelayout.rules import rule_of_orders, order_at, ring_at
>>> ringed = (((1,), (2,), (0,)),) * 3
>>> [rule_of_orders(((0, 2, 1), (1, 2, 0)))[0], order_at(ringed, 0), order_at(rule_of_orders(((2, 0, 1),)), 0)]
[((1, 2), (), (1,)), None, (2, 0, 1)]
"""

FARTHER = """
>>> from samelayout.rules import farther_rule
>>> farther_rule(((0, 1), (1, 0), (0, 1)))
(((2,), (0, 2), ()), ((1, 2), (), (1,)))
"""

INSERTING = """
>>> from samelayout.rules import rule_of_orders
>>> from samelayout.inserting import insert, layout_of
>>> probes = ((0, 1, 2), (0, 1, 2), (1, 0, 2))
>>> rule = rule_of_orders(((0, 2, 1), (1, 2, 0), (0, 1, 2)))
>>> [layout_of(probes, rule, (0, 1, 2)), insert(probes, rule, (1, 2, -1), 0)]
[(0, 1, 2), ((0, 1, 2), ((0, 0), (1, 1), (2, 2)))]
"""

JUDGING = """
>>> from samelayout.judging import judge, shows_judgement, shows_unlike, unlike
>>> from samelayout.rules import rule_of_orders
>>> ringed = (((1,), (2,), (0,)),) * 3
>>> equal = ((0, 1, 2),) * 3
>>> [judge(rule_of_orders(((1, 0),))), shows_judgement(ringed, ('ring', 0, (0, 1, 2))), shows_unlike(equal, ringed, ((0, 1, 2), (1, 2, 0))), unlike(((0, 1),) * 3, ringed[:2])]
[('orders', ((1, 0),)), True, True, None]
"""

LAYOUTS = """
>>> from samelayout.judging import all_layouts
>>> from samelayout.rules import rule_of_orders
>>> all_layouts(((0, 1), (0, 1)), rule_of_orders(((1, 0), (0, 1))))
(((), (-1, -1)), ((0,), (0, -1)), ((0, 1), (1, 0)), ((1,), (1, -1)))
"""

STABLE = """
>>> from samelayout.rules import rule_of_orders
>>> from samelayout.stable import best, stable_layouts, worst
>>> probes = ((0, 1, 2), (0, 1, 2), (1, 0, 2))
>>> rule = rule_of_orders(((0, 2, 1), (1, 2, 0), (0, 1, 2)))
>>> [best(probes, rule, (1, 2)), worst(probes, rule, (1, 2)), stable_layouts(probes, rule, (0, 1, 2))]
[(1, 2, -1), (2, 1, -1), ((0, 1, 2),)]
"""

RINGS = """
>>> from samelayout.rules import rule_of_orders
>>> from samelayout.rings import exchange, next_key, rings, rings_to_best
>>> probes = ((0, 1, 2), (0, 1, 2), (1, 0, 2))
>>> rule = rule_of_orders(((0, 2, 1), (1, 2, 0), (0, 1, 2)))
>>> [next_key(probes, rule, (2, 1, -1), 0), rings(probes, rule, (2, 1, -1)), exchange(probes, rule, (2, 1, -1), (0, 1)), rings_to_best(probes, rule, (2, 1, -1))]
[1, ((0, 1),), (1, 2, -1), (((0, 2, 1), (1, 1, 2)),)]
"""

REMOVING = """
>>> from samelayout.rules import rule_of_orders
>>> from samelayout.removing import fill, look_up, remove
>>> probes = ((0, 1, 2), (0, 1, 2), (1, 0, 2))
>>> rule = rule_of_orders(((0, 2, 1), (1, 2, 0), (0, 1, 2)))
>>> [fill(probes, rule, (0, 1, 2), 0), remove(probes, rule, (0, 1, 2), 0), look_up(probes, rule, (0, 1, 2), 2), look_up(probes, rule, (1, 2, -1), 0)]
[((2, 1, -1), ((2, 2, 0),)), (1, 2, -1), (2, 3), (-1, 1)]
"""

LINEAR = """
>>> from samelayout.linear import distance_sum, flows, greatest_distance, square_sum, taken
>>> [flows((2, 1, 0, 0, 2)), taken((2, 0, 0, 1)), distance_sum((2, 1, 0, 0, 2)), greatest_distance((2, 1, 0, 0, 2)), square_sum((2, 1, 0, 0, 2))]
[(2, 2, 1, 0, 1), (0, 1, 3), 6, 2, 10]
"""

RUNS = """
>>> from samelayout.runs import run_distance_sum, run_flow, run_greatest, run_taken
>>> runs = ((1000, 2), (2000, 0))
>>> [run_flow(runs, 999), run_taken(runs, 1999), run_taken(runs, 2000), run_greatest(runs), run_distance_sum(runs)]
[1000, True, False, 1000, 1000000]
"""

TABLE = """
>>> from samelayout.table import Table
>>> table = Table(4)
>>> table.put('a', 'x')
>>> table.put('e', 'y')
>>> table.put('b', 'z')
>>> [table.layout(), table.look_up('i'), table.take_out('a'), table.layout()]
[('', 'a', 'b', 'e'), (-1, 4), 'x', ('', 'e', 'b', '')]
"""

WRITTEN = r"""
>>> from samelayout.showing import show_history, show_layout, show_setting
>>> from samelayout.rules import rule_of_orders
>>> [show_setting(((0, 1), (1, 0)), rule_of_orders(((1, 0), (0, 1)))), show_layout((2, -1)), show_history(())]
['keys 2 slots 2\nprobe 0 1\nprobe 1 0\nbeats - 0\nbeats 1 -', '2 -', '-']
"""

SESSION = r"""
>>> from samelayout.session import Session
>>> session = Session('keys 2 slots 2\nprobe 0 1\nprobe 0 1\nbeats - 0\nbeats 1 -')
>>> [session.say('insert 0'), session.say('insert 1'), session.say('show'), session.say('find 0'), session.say('judge')]
['0:0', '1:0 0:1', '1 0', '1 reads 2', 'orders']
"""


class DocumentTest(unittest.TestCase):

    def check(self, text):
        example = doctest.DocTestParser().get_doctest(text, {}, "example", None, 0)
        told = []
        result = doctest.DocTestRunner(verbose=False).run(example, out=told.append)
        self.assertEqual((result.failed, "".join(told)), (0, ""))
        self.assertGreater(result.attempted, 1)

    def test_probe_orders(self):
        self.check(PROBES)

    def test_rules(self):
        self.check(RULES)

    def test_farther_rule(self):
        self.check(FARTHER)

    def test_inserting(self):
        self.check(INSERTING)

    def test_judging(self):
        self.check(JUDGING)

    def test_all_layouts(self):
        self.check(LAYOUTS)

    def test_stable_layouts(self):
        self.check(STABLE)

    def test_rings(self):
        self.check(RINGS)

    def test_removing_and_looking_up(self):
        self.check(REMOVING)

    def test_linear_probing(self):
        self.check(LINEAR)

    def test_long_tables(self):
        self.check(RUNS)

    def test_table(self):
        self.check(TABLE)

    def test_written_forms(self):
        self.check(WRITTEN)

    def test_session(self):
        self.check(SESSION)

    def test_readme(self):
        readme = pathlib.Path(__file__).resolve().parent.parent / "README.md"
        self.check(readme.read_text(encoding="utf-8").replace("```", ""))
