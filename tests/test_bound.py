"""Promise 8: bound, with the nodes' potentials."""

import unittest

from tests.helper import ban, bound, fact, graph, last, recost, remost, run

NET = graph(
    4,
    0, 1, 3, 1,
    0, 2, 10, 0,
    1, 2, 4, 1,
    1, 2, 6, 9,
    2, 3, 5, 1,
    2, 1, 100, 2,
    3, 3, 7, 3,
    3, 0, 50, 1,
)


class Potentials(unittest.TestCase):
    def test_each_is_the_greatest(self):
        # Surpluses 0, 1 (but its most is 0), -2, 0, 0, 106, 7, 64.
        self.assertEqual(last(NET, bound()), [0, 14 + 106 * 2 + 7 * 3 + 64, 14, 11, 5, 0])

    def test_an_edge_with_the_most_0_does_not_count(self):
        # With a most, edge 1 makes the entry's potential 15: edge 0 has the surplus -1, edge 7 65.
        self.assertEqual(last(NET, remost(1, 1), bound()), [0, 15 + 212 + 21 + 65, 15, 11, 5, 0])
        self.assertEqual(last(NET, remost(3, 0), bound()), [0, 12 + 104 * 2 + 21 + 62, 12, 9, 5, 0])

    def test_by_the_costs_of_now(self):
        # Edge 2's surplus is 0 then, edge 3's -1.
        self.assertEqual(last(NET, recost(2, 7), bound()), [0, 15 + 107 * 2 + 21 + 65, 15, 12, 5, 0])

    def test_no_edge_to_a_greater_number(self):
        self.assertEqual(last(graph(3, 0, 2, 5, 1, 0, 1, 9, 1, 1, 0, 1, 1), bound()), [0, 9 + 10, 9, 0, 0])
        self.assertEqual(last(graph(3, 2, 0, 5, 2, 1, 1, 4, 3, 2, 1, 3, 1), bound()), [0, 10 + 12 + 3, 0, 0, 0])

    def test_an_edge_that_passes_nodes_by(self):
        self.assertEqual(last(graph(4, 0, 3, 10, 1, 0, 1, 4, 1, 1, 3, 5, 1), bound()), [0, 10, 10, 5, 0, 0])
        self.assertEqual(last(graph(4, 0, 3, 8, 1, 0, 1, 4, 1, 1, 3, 5, 1), bound()), [0, 9, 9, 5, 0, 0])

    def test_a_surplus_below_0_is_taken_as_often_as_the_low(self):
        self.assertEqual(last(graph(2, 0, 1, 5, 9, 0, 1, 3, 9), bound()), [0, 5, 5, 0])

    def test_eight_nodes_and_sixteen_edges(self):
        row = [8]
        for node in range(7):
            row += [node, node + 1, 1000, 9]
        for node in range(8):
            row += [node, node, 1000, 9]
        row += [7, 0, 1000, 9]
        expected = [0, 7000 + 8 * 9000 + 9 * 8000, 7000, 6000, 5000, 4000, 3000, 2000, 1000, 0]
        self.assertEqual(last(graph(*row), bound()), expected)


class NotTightened(unittest.TestCase):
    def test_facts_and_bans_do_not_matter(self):
        known = (fact(0, 0, 0, 0, 0, 1, 0, 0, 0), ban(0, 4), fact(*[0] * 8, -1))
        calls = [NET, bound()] + [call for told in known for call in (told, bound())]
        self.assertEqual(run(*calls)[1::2], [[0, 311, 14, 11, 5, 0]] * 4)

    def test_an_edge_that_no_way_has(self):
        self.assertEqual(last(graph(3, 0, 2, 1, 1, 1, 1, 7, 9), bound()), [0, 64, 1, 0, 0])

    def test_the_beginning(self):
        self.assertEqual(run(bound(), recost(0, 6), bound()), [[0, 0, 0, 0], [0], [0, 6, 6, 0]])
