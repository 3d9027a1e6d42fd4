"""Promise 10: without, when there's no such fact."""

import unittest

from tests.helper import FAR, ban, fact, graph, run, unfact, way, without

LOOP = graph(2, 0, 1, 5, 1, 1, 1, 7, 9)


class WithoutNoFact(unittest.TestCase):
    def test_at_the_beginning(self):
        for k in (0, 1, -1, FAR, -FAR):
            self.assertEqual(run(without(k), way(0)), [[-3], [0, 0]])

    def test_beside_the_facts_that_are_there(self):
        facts = [fact(0, 1, bound) for bound in range(6)]
        for many in range(7):
            for k in (-1, -many - 1, -many or -1, many, many + 1, FAR, -FAR):
                answers = run(LOOP, *facts[:many], without(k), unfact(0), way(0))[many + 1:]
                self.assertEqual(answers, [[-3], [0, many - 1] if many else [-3], [0, 5]], (many, k))

    def test_a_ban_is_no_fact(self):
        self.assertEqual(run(LOOP, ban(0, 1), without(0))[2], [-3])

    def test_a_fact_that_is_gone(self):
        self.assertEqual(run(LOOP, fact(0, 1, 1), fact(0, 1, 2), unfact(0), without(1))[4], [-3])
        self.assertEqual(run(LOOP, fact(0, 1, 1), LOOP, without(0))[3], [-3])
