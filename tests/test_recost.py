"""Promise 5: recost and remost."""

import unittest

from tests.helper import FAR, ban, fact, fits, graph, last, recost, remost, run, unban, unfact, way

PAIR = graph(2, 0, 1, 1, 9, 0, 1, 10, 9, 1, 0, 100, 9, 1, 1, 500, 1)


class Recost(unittest.TestCase):
    def test_from_now_on(self):
        calls = (PAIR, way(0, 2, 1), recost(2, 7), way(0, 2, 1), recost(2, 8), way(0, 2, 1), way(0, 3))
        self.assertEqual(run(*calls)[1:], [[0, 111], [0], [0, 18], [0], [0, 19], [0, 501]])

    def test_least_and_greatest(self):
        calls = (PAIR, recost(0, 1000), way(0), recost(0, 0), way(0))
        self.assertEqual(run(*calls)[1:], [[0], [0, 1000], [0], [0, 0]])

    def test_out_of_range(self):
        for c in (-1, 1001, FAR, -FAR):
            self.assertEqual(run(PAIR, recost(3, c), way(0, 3))[1:], [[-7], [0, 501]])

    def test_no_edge(self):
        for e in (-1, -4, 4, 16, FAR, -FAR):
            self.assertEqual(run(PAIR, recost(e, 5), way(0, 3), way(0, 2, 1))[1:], [[-3], [0, 501], [0, 111]])

    def test_no_edge_is_told_before_the_range(self):
        for e in (-1, 4):
            for c in (-1, 1001):
                self.assertEqual(last(PAIR, recost(e, c)), [-3])

    def test_the_edge_of_the_beginning(self):
        self.assertEqual(run(recost(0, 9), way(0), recost(1, 9)), [[0], [0, 9], [-3]])

    def test_facts_and_bans_stay(self):
        calls = (PAIR, fact(1, 0, 0, 0, 1), ban(0, 1), recost(0, 2), way(0, 2, 0), way(0, 2, 1), unfact(0), unban(0))
        self.assertEqual(run(*calls)[3:], [[0], [2, 0], [3, 0], [0, 0], [0, 0]])

    def test_a_new_graph_has_its_own_costs(self):
        self.assertEqual(run(PAIR, recost(0, 900), PAIR, way(0))[3], [0, 1])


class Remost(unittest.TestCase):
    def test_from_now_on(self):
        calls = (PAIR, way(0, 3, 3), remost(3, 2), way(0, 3, 3), remost(3, 1), way(0, 3, 3))
        self.assertEqual(run(*calls)[1:], [[1, 3], [0], [0, 1001], [0], [1, 3]])

    def test_least_and_greatest(self):
        nine = way(0, *[3] * 9)
        calls = (PAIR, remost(3, 9), nine, way(0, *[3] * 10), remost(3, 0), way(0, 3), way(0))
        self.assertEqual(run(*calls)[1:], [[0], [0, 4501], [1, 3], [0], [1, 3], [0, 1]])

    def test_out_of_range(self):
        for m in (-1, 10, 1000, FAR, -FAR):
            self.assertEqual(run(PAIR, remost(3, m), way(0, 3), way(0, 3, 3))[1:], [[-7], [0, 501], [1, 3]])

    def test_no_edge(self):
        for e in (-1, -4, 4, 16, FAR, -FAR):
            self.assertEqual(run(PAIR, remost(e, 0), way(0, 3), way(1, 2, 1))[1:], [[-3], [0, 501], [0, 120]])

    def test_no_edge_is_told_before_the_range(self):
        for e in (-1, 4):
            for m in (-1, 10):
                self.assertEqual(last(PAIR, remost(e, m)), [-3])

    def test_costs_facts_and_bans_stay(self):
        calls = (PAIR, fact(1, 0, 0, 0, 1), ban(0, 1), remost(0, 5), way(0), way(0, 2, 0), way(0, 2, 1), unfact(0))
        self.assertEqual(run(*calls)[3:], [[0], [0, 1], [2, 0], [3, 0], [0, 0]])

    def test_whether_counts_fit_does_not_hang_on_mosts(self):
        self.assertEqual(run(PAIR, remost(0, 0), fits(1, 0, 0, 0), fits(1, 0, 0, 9))[2:], [[1], [1]])
