"""Promises 2, 3 and 4: fact, ban, unfact, unban."""

import unittest

from tests.helper import FAR, ban, fact, graph, last, remost, run, unban, unfact, way

# 0 to 1 by edges 0 and 1, back by edge 2, 1 to itself by edge 3.
PAIR = graph(2, 0, 1, 1, 9, 0, 1, 10, 9, 1, 0, 100, 9, 1, 1, 1000, 9)


class Facts(unittest.TestCase):
    def test_they_are_counted(self):
        calls = [fact(0, 0, 0, 0, 0)] * 6
        self.assertEqual(run(PAIR, *calls)[1:], [[0, count] for count in range(1, 7)])

    def test_at_most_the_bound(self):
        calls = (PAIR, fact(0, 0, 0, 1, 2), way(0, 3), way(0, 3, 3), way(0, 3, 3, 3))
        self.assertEqual(run(*calls)[2:], [[0, 1001], [0, 2001], [2, 0]])

    def test_multiples_of_both_signs(self):
        calls = (PAIR, fact(0, 0, -2, 1, 0), way(0), way(0, 3), way(0, 2, 0, 3, 3), way(0, 2, 0, 3, 3, 3))
        self.assertEqual(run(*calls)[2:], [[0, 1], [2, 0], [0, 2102], [2, 0]])

    def test_each_edge_has_its_own_multiple(self):
        for edge, ways in enumerate(((0,), (1,), (0, 2, 1), (0, 3))):
            multiples = [0, 0, 0, 0]
            multiples[edge] = 1
            self.assertEqual(last(PAIR, fact(*multiples, 0), way(*ways)), [2, 0])
            self.assertEqual(last(PAIR, fact(*multiples, 1), way(*ways))[0], 0)

    def test_least_and_greatest_multiples_and_bounds(self):
        calls = (PAIR, fact(20, -20, 20, -20, 1000), fact(-20, 20, -20, 20, -1000), way(0))
        self.assertEqual(run(*calls)[1:], [[0, 1], [0, 2], [2, 1]])
        calls = (PAIR, fact(-20, -20, -20, -20, -20), fact(20, 20, 20, 20, 20), way(0), way(0, 3))
        self.assertEqual(run(*calls)[3:], [[0, 1], [2, 1]])
        calls = (PAIR, fact(0, 0, 0, 0, -1), way(0))
        self.assertEqual(last(*calls), [2, 0])

    def test_the_new_one_is_the_last(self):
        calls = (PAIR, fact(0, 0, 0, 1, 2), fact(0, 0, 0, 1, 1), way(0, 3, 3), way(0, 3, 3, 3))
        self.assertEqual(run(*calls)[3:], [[2, 1], [2, 0]])

    def test_the_same_fact_twice(self):
        self.assertEqual(run(PAIR, fact(1, 0, 0, 0, 0), fact(1, 0, 0, 0, 0), way(0))[1:], [[0, 1], [0, 2], [2, 0]])

    def test_wrong_rows(self):
        right = [1, 0, 0, 0, 5]
        rows = [right[:length] for length in range(5)] + [right + [0], right * 2, [0] * 2000]
        for place, farthest in enumerate((20, 20, 20, 20, 1000)):
            for wrong in (farthest + 1, -farthest - 1, FAR, -FAR):
                row = list(right)
                row[place] = wrong
                rows.append(row)
        for row in rows:
            self.assertEqual(run(PAIR, fact(*row), way(0), unfact(0))[1:], [[-12], [0, 1], [-3]], row)

    def test_six_are_the_most(self):
        six = [fact(0, 0, 0, 0, bound) for bound in range(6)]
        calls = (PAIR, *six, fact(1, 0, 0, 0, 0), way(0), unfact(6), unfact(5), fact(1, 0, 0, 0, 0), way(0))
        self.assertEqual(run(*calls)[7:], [[-9], [0, 1], [-3], [0, 5], [0, 6], [2, 5]])

    def test_a_wrong_row_is_told_before_six_facts(self):
        calls = [PAIR] + [fact(0, 0, 0, 0, 0)] * 6
        for row in ([], [0, 0, 0, 0], [0, 0, 0, 0, 1001], [21, 0, 0, 0, 0], [0, 0, 0, 0, 0, 0]):
            self.assertEqual(last(*calls, fact(*row)), [-12])

    def test_as_many_multiples_as_the_graph_has_edges(self):
        self.assertEqual(run(fact(1, 0), fact(1, 1, 0), PAIR, fact(1, 0)), [[0, 1], [-12], [0, 2, 4], [-12]])
        edges = [0, 1, 0, 1] * 16
        self.assertEqual(run(graph(2, *edges), fact(*[20] * 16, 1000), fact(*[20] * 16))[1:], [[0, 1], [-12]])


class Bans(unittest.TestCase):
    def test_they_are_counted(self):
        self.assertEqual(run(PAIR, *[ban(0, 1)] * 4)[1:], [[0, 1], [0, 2], [0, 3], [0, 4]])

    def test_one_of_the_two_may_stand(self):
        calls = (PAIR, ban(3, 0), way(0), way(1, 3), way(0, 3), way(0, 2, 0, 3), way(0, 2, 1))
        self.assertEqual(run(*calls)[2:], [[0, 1], [0, 1010], [3, 0], [3, 0], [0, 111]])

    def test_both_orders(self):
        for pair in ((0, 3), (3, 0)):
            self.assertEqual(last(PAIR, ban(*pair), way(0, 3)), [3, 0])

    def test_the_new_one_is_the_last(self):
        self.assertEqual(run(PAIR, ban(0, 1), ban(0, 2), way(0, 2, 0), way(0, 2, 1))[3:], [[3, 1], [3, 0]])

    def test_no_edges(self):
        for wrong in (-1, 4, -4, 5, FAR, -FAR):
            for pair in ((wrong, 0), (0, wrong), (wrong, wrong)):
                self.assertEqual(run(PAIR, ban(*pair), way(0), unban(0))[1:], [[-3], [0, 1], [-3]])

    def test_the_same_edge_twice(self):
        for edge in range(4):
            self.assertEqual(run(PAIR, ban(edge, edge), unban(0))[1:], [[-3], [-3]])

    def test_four_are_the_most(self):
        calls = (PAIR, *[ban(1, 2)] * 4, ban(0, 3), way(0, 3), unban(4), unban(3), ban(0, 3), way(0, 3))
        self.assertEqual(run(*calls)[5:], [[-9], [0, 1001], [-3], [0, 3], [0, 4], [3, 3]])

    def test_no_edge_is_told_before_four_bans(self):
        for pair in ((0, 4), (-1, 0), (2, 2)):
            self.assertEqual(last(PAIR, *[ban(0, 1)] * 4, ban(*pair)), [-3])

    def test_the_last_of_sixteen_edges(self):
        edges = [0, 1, 0, 1] * 15 + [1, 1, 0, 1]
        self.assertEqual(run(graph(2, *edges), ban(15, 14), way(14, 15), ban(16, 0))[1:], [[0, 1], [3, 0], [-3]])


class Unfact(unittest.TestCase):
    facts = [fact(0, 0, 0, 1, bound) for bound in (2, 1, 0)]

    def test_those_behind_have_numbers_less_by_1(self):
        loops = [way(0, 3), way(0, 3, 3), way(0, 3, 3, 3)]
        free = [[0, 1001], [0, 2001], [0, 3001]]
        self.assertEqual(run(PAIR, *self.facts, unfact(0), *loops)[4:], [[0, 2], [2, 1], [2, 0], [2, 0]])
        self.assertEqual(run(PAIR, *self.facts, unfact(1), *loops)[4:], [[0, 2], [2, 1], [2, 1], [2, 0]])
        self.assertEqual(run(PAIR, *self.facts, unfact(2), *loops)[4:], [[0, 2], free[0], [2, 1], [2, 0]])
        gone = run(PAIR, *self.facts, unfact(0), unfact(0), unfact(0), *loops)
        self.assertEqual(gone[4:], [[0, 2], [0, 1], [0, 0], *free])

    def test_no_such_fact(self):
        self.assertEqual(last(PAIR, unfact(0)), [-3])
        for k in (-1, -3, 3, 4, 6, FAR, -FAR):
            self.assertEqual(run(PAIR, *self.facts, unfact(k), way(0, 3), unfact(2))[4:], [[-3], [2, 2], [0, 2]])

    def test_bans_are_not_facts(self):
        self.assertEqual(run(PAIR, ban(0, 1), unfact(0), fact(0, 0, 0, 0, 0), unfact(0), unban(0))[2:],
                         [[-3], [0, 1], [0, 0], [0, 0]])

    def test_a_new_one_is_behind_those_that_are_left(self):
        calls = (PAIR, *self.facts, unfact(2), fact(1, 0, 0, 0, 0), way(0), way(1), way(0, 3, 3))
        self.assertEqual(run(*calls)[5:], [[0, 3], [2, 2], [0, 10], [2, 1]])


class Unban(unittest.TestCase):
    bans = [ban(0, 1), ban(0, 2), ban(0, 3)]

    def test_those_behind_have_numbers_less_by_1(self):
        ways = [way(0, 2, 1), way(0, 2, 0), way(0, 3)]
        self.assertEqual(run(PAIR, *self.bans, unban(0), *ways)[4:], [[0, 2], [3, 0], [3, 0], [3, 1]])
        self.assertEqual(run(PAIR, *self.bans, unban(1), *ways)[4:], [[0, 2], [3, 0], [0, 102], [3, 1]])
        self.assertEqual(run(PAIR, *self.bans, unban(2), *ways)[4:], [[0, 2], [3, 0], [3, 1], [0, 1001]])

    def test_no_such_ban(self):
        self.assertEqual(last(PAIR, unban(0)), [-3])
        for k in (-1, -3, 3, 4, FAR, -FAR):
            self.assertEqual(run(PAIR, *self.bans, unban(k), way(0, 3), unban(2))[4:], [[-3], [3, 2], [0, 2]])

    def test_facts_are_not_bans(self):
        self.assertEqual(run(PAIR, fact(0, 0, 0, 0, 0), unban(0), unfact(0))[2:], [[-3], [0, 0]])

    def test_mosts_and_facts_stay(self):
        calls = (PAIR, fact(0, 0, 1, 0, 0), ban(0, 1), remost(3, 0), unban(0), way(0, 3), way(0, 2, 1))
        self.assertEqual(run(*calls)[4:], [[0, 0], [1, 3], [2, 0]])
