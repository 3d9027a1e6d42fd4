"""Promise 6: way, and which of its answers comes first."""

import unittest

from tests.helper import FAR, ban, fact, graph, last, recost, remost, run, way

# 0 to 1 and back, 1 to 2 (the exit) and back, 2 to itself, 0 to 2, 1 to itself.
NET = graph(3, 0, 1, 1, 9, 1, 0, 2, 9, 1, 2, 4, 9, 2, 1, 8, 9, 2, 2, 16, 9, 0, 2, 32, 9, 1, 1, 64, 9)


class Costs(unittest.TestCase):
    def test_each_edge_as_often_as_it_stands_there(self):
        self.assertEqual(
            run(NET, way(5), way(0, 2), way(0, 6, 6, 2), way(0, 1, 0, 1, 5))[1:],
            [[0, 32], [0, 5], [0, 133], [0, 38]],
        )

    def test_on_from_the_exit(self):
        self.assertEqual(run(NET, way(5, 4, 4), way(5, 3, 2), way(0, 2, 3, 1, 5))[1:], [[0, 64], [0, 44], [0, 47]])

    def test_the_greatest_cost(self):
        row = [2] + [0, 0, 1000, 9] * 15 + [0, 1, 1000, 9]
        edges = [edge for edge in range(15) for time in range(9)] + [15]
        self.assertEqual(last(graph(*row), way(*edges)), [0, 136000])


class NoWays(unittest.TestCase):
    def refused(self, *edges):
        self.assertEqual(run(NET, way(*edges), way(5))[1:], [[-10], [0, 32]], edges)

    def test_no_edge_at_all(self):
        self.refused()

    def test_not_from_the_entry(self):
        for edges in ((2,), (1, 5), (3, 2), (4,), (6, 2)):
            self.refused(*edges)

    def test_not_to_the_exit(self):
        for edges in ((0,), (0, 1), (5, 3), (0, 6), (0, 2, 3)):
            self.refused(*edges)

    def test_not_on_from_the_node_before(self):
        for edges in ((0, 5), (0, 4), (5, 2), (0, 0, 2), (5, 5), (0, 2, 2)):
            self.refused(*edges)

    def test_no_edges_numbers(self):
        for wrong in (-1, -2, -7, 7, 8, FAR, -FAR):
            self.refused(wrong)
            self.refused(0, wrong)
            self.refused(0, wrong, 2)
            self.refused(5, wrong)

    def test_no_way_is_told_before_all_else(self):
        calls = (NET, remost(0, 0), fact(0, 0, 0, 0, 0, 0, 0, -1), ban(0, 1), way(0, 1, 0))
        self.assertEqual(last(*calls), [-10])

    def test_the_longest_lists(self):
        self.assertEqual(last(NET, way(0, *[6] * 1998, 2)), [1, 6])
        self.assertEqual(last(NET, way(0, *[6] * 1999)), [-10])
        self.assertEqual(last(NET, way(*[5] * 2000)), [-10])


class NotLet(unittest.TestCase):
    def test_as_often_as_its_most(self):
        self.assertEqual(run(NET, way(0, *[6] * 9, 2), way(0, *[6] * 10, 2))[1:], [[0, 581], [1, 6]])

    def test_the_first_edge_by_number(self):
        calls = (NET, remost(4, 1), remost(2, 1), remost(3, 0), way(5, 4, 4, 3, 2, 3, 2), way(5, 4, 4), way(5, 3, 2))
        self.assertEqual(run(*calls)[4:], [[1, 2], [1, 4], [1, 3]])

    def test_mosts_before_facts_before_bans(self):
        never = fact(0, 0, 0, 0, 0, 0, 0, -1)
        self.assertEqual(last(NET, remost(0, 0), never, ban(0, 2), way(0, 2)), [1, 0])
        self.assertEqual(last(NET, never, ban(0, 2), way(0, 2)), [2, 0])
        self.assertEqual(last(NET, ban(0, 2), way(0, 2)), [3, 0])
        self.assertEqual(last(NET, ban(0, 2), way(5)), [0, 32])

    def test_the_first_fact_and_the_first_ban(self):
        always = fact(0, 0, 0, 0, 0, 0, 0, 0)
        never = fact(0, 0, 0, 0, 0, 0, 0, -1)
        self.assertEqual(last(NET, always, always, never, always, never, never, way(5)), [2, 2])
        self.assertEqual(last(NET, always, always, always, always, always, never, way(5)), [2, 5])
        self.assertEqual(last(NET, ban(0, 1), ban(5, 6), ban(2, 0), ban(0, 2), way(0, 2)), [3, 2])
        self.assertEqual(last(NET, ban(0, 1), ban(5, 6), ban(2, 1), ban(0, 2), way(0, 2)), [3, 3])

    def test_costs_do_not_matter_to_it(self):
        self.assertEqual(last(NET, recost(0, 1000), ban(0, 2), way(0, 2)), [3, 0])
