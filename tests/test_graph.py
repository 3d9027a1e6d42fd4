"""Promise 1: graph."""

import unittest

from tests.helper import FAR, ban, fact, fits, graph, last, run, told, unban, unfact, way

EDGE = [0, 1, 0, 1]
RIGHT = [3, 0, 1, 5, 2, 1, 2, 7, 3]


class RightGraphs(unittest.TestCase):
    def test_ordinary(self):
        self.assertEqual(run(graph(*RIGHT)), [[0, 3, 2]])

    def test_two_and_eight_nodes(self):
        self.assertEqual(last(graph(2, 0, 1, 0, 1)), [0, 2, 1])
        self.assertEqual(last(graph(8, 0, 7, 0, 1)), [0, 8, 1])

    def test_one_and_sixteen_edges(self):
        self.assertEqual(last(graph(2, *EDGE)), [0, 2, 1])
        self.assertEqual(last(graph(2, *EDGE * 16)), [0, 2, 16])

    def test_every_node_of_eight(self):
        row = [8]
        for node in range(7):
            row += [node, node + 1, 10 ** (node % 3), 1]
        self.assertEqual(run(graph(*row), way(*range(7)))[1], [0, 1 + 10 + 100 + 1 + 10 + 100 + 1])

    def test_least_and_greatest_costs_and_mosts(self):
        row = [2, 0, 1, 0, 0, 0, 1, 1000, 9, 1, 0, 1000, 9]
        self.assertEqual(
            run(graph(*row), way(0), way(1), way(*([1, 2] * 8 + [1])), way(*([1, 2] * 9 + [1])))[1:],
            [[1, 0], [0, 1000], [0, 17000], [1, 1]],
        )

    def test_edge_from_a_node_to_itself(self):
        row = [2, 0, 0, 3, 2, 0, 1, 4, 1, 1, 1, 5, 2]
        self.assertEqual(run(graph(*row), way(0, 0, 1, 2)), [[0, 2, 3], [0, 15]])

    def test_edges_with_the_same_nodes(self):
        row = [2, 0, 1, 3, 1, 0, 1, 4, 1, 0, 1, 3, 1]
        self.assertEqual(run(graph(*row), way(0), way(1), way(2))[1:], [[0, 3], [0, 4], [0, 3]])

    def test_no_edge_to_the_exit(self):
        self.assertEqual(run(graph(3, 1, 0, 3, 1), way(0), fits(1)), [[0, 3, 1], [-10], [0]])

    def test_it_takes_the_place_of_the_one_before(self):
        calls = (graph(*RIGHT), way(0, 1), graph(2, 1, 0, 5, 1, 0, 1, 6, 1), way(0, 1), way(1), told(1, 2))
        self.assertEqual(run(*calls)[1:], [[0, 12], [0, 2, 2], [-10], [0, 6], [0, 1, 0, 1]])

    def test_it_has_no_facts_and_no_bans(self):
        calls = (graph(*RIGHT), fact(1, 0, 0), ban(0, 1), way(0, 1), graph(*RIGHT), way(0, 1), unfact(0), unban(0))
        self.assertEqual(run(*calls)[3:], [[2, 0], [0, 3, 2], [0, 12], [-3], [-3]])
        self.assertEqual(run(*calls[:5], fact(0, 0, 0), ban(1, 0))[5:], [[0, 1], [0, 1]])


class TheBeginning(unittest.TestCase):
    def test_two_nodes_and_one_edge(self):
        self.assertEqual(run(way(0), way(1), way(0, 0), way()), [[0, 0], [-10], [-10], [-10]])
        self.assertEqual(run(fits(1), fits(0), fits(2), told(1), fits(1, 0)), [[1], [0], [0], [0, 0], [-12]])

    def test_its_most_is_1(self):
        self.assertEqual(run([6, 0, 0], way(0), [6, 0, 1], way(0)), [[0], [1, 0], [0], [0, 0]])

    def test_no_facts_and_no_bans(self):
        self.assertEqual(run(unfact(0), unban(0), fact(1, 0), ban(0, 1)), [[-3], [-3], [0, 1], [-3]])


class WrongGraphs(unittest.TestCase):
    def refused(self, *row):
        self.assertEqual(run(graph(*RIGHT), graph(*row), way(0, 1))[1:], [[-12], [0, 12]], row)

    def test_no_such_length(self):
        for length in range(len(RIGHT)):
            if length != 5:
                self.refused(*RIGHT[:length])
        for behind in ([0], [0, 1], [0, 1, 0]):
            self.refused(*RIGHT, *behind)

    def test_no_edge_and_seventeen_edges(self):
        self.refused(3)
        self.refused(2, *EDGE * 17)

    def test_the_longest_list(self):
        self.refused(2, *EDGE * 499)
        self.refused(*[0] * 2000)

    def test_too_few_and_too_many_nodes(self):
        for nodes in (-FAR, -2, -1, 0, 1, 9, 10, FAR):
            self.refused(nodes, 0, 0, 0, 1)
            self.refused(nodes, 0, 1, 0, 1)

    def test_each_number_out_of_its_range(self):
        above = [9, 3, 3, 1001, 10, 3, 3, 1001, 10]
        for place in range(len(RIGHT)):
            for wrong in (-1, above[place], -FAR, FAR):
                row = list(RIGHT)
                row[place] = wrong
                self.refused(*row)

    def test_each_number_out_of_its_range_at_the_last_of_sixteen_edges(self):
        for place, above in enumerate((2, 2, 1001, 10)):
            for wrong in (-1, above):
                edge = list(EDGE)
                edge[place] = wrong
                self.refused(2, *EDGE * 15, *edge)

    def test_at_the_beginning(self):
        self.assertEqual(run(graph(), way(0)), [[-12], [0, 0]])
