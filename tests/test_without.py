"""Promise 10: without."""

import unittest

from tests.helper import FAR, ban, fact, graph, last, least, run, size, unfact, way, without, worst

LOOP = graph(2, 0, 1, 5, 1, 1, 1, 7, 9)
LOOPS = graph(2, 0, 1, 0, 1, 0, 0, 1, 9, 0, 0, 10, 9)


class Without(unittest.TestCase):
    def test_each_fact(self):
        calls = (LOOPS, fact(0, 1, 0, 4), fact(0, 1, 0, 6), fact(0, 0, 1, 3))
        asked = (worst(), without(0), without(1), without(2))
        found = run(*calls, *asked)[4:]
        self.assertEqual(found[0][:2], [0, 34])
        self.assertEqual(found[1:], [[0, 36], [0, 34], [0, 94]])

    def test_each_of_six(self):
        facts = [fact(0, 1, 0, 5), fact(0, 0, 1, 5), fact(0, 1, 1, 7), fact(0, 1, -1, 3), fact(0, -1, 1, 3)]
        facts.append(fact(0, 2, 1, 11))
        for k in range(6):
            expected = last(LOOPS, *facts[:k], *facts[k + 1:], worst())[:2]
            self.assertEqual(last(LOOPS, *facts, without(k)), expected)

    def test_the_same_fact_twice(self):
        calls = (LOOP, fact(0, 1, 2), fact(0, 1, 2), without(0), without(1), unfact(0), without(0))
        self.assertEqual(run(*calls)[3:], [[0, 19], [0, 19], [0, 1], [0, 68]])

    def test_the_bans_and_the_other_facts_are_kept(self):
        calls = (LOOPS, ban(1, 2), fact(0, 1, 0, 4), fact(0, 0, 1, 0), without(0), without(1))
        self.assertEqual(run(*calls)[4:], [[0, 9], [0, 90]])

    def test_the_only_fact_that_lets_none(self):
        self.assertEqual(run(LOOP, fact(1, 0, 0), worst(), without(0))[2:], [[1, 1], [0, 68]])
        self.assertEqual(run(LOOP, fact(0, 0, -1), without(0))[2], [0, 68])

    def test_none_that_is_let_without_it_either(self):
        calls = (LOOP, fact(1, 0, 0), fact(0, 1, 3), fact(-1, 0, -2), without(0), without(1), without(2))
        self.assertEqual(run(*calls)[4:], [[1], [1], [1]])
        calls = (LOOP, ban(0, 1), fact(0, -1, -1), fact(0, 1, 8), without(1), without(0))
        self.assertEqual(run(*calls)[4:], [[1], [0, 5]])

    def test_broken_off(self):
        row = (2, 0, 1, 1, 1, 0, 0, 1, 9, 0, 0, 1, 9, 0, 0, 1, 9)
        calls = (graph(*row), fact(0, 1, 1, 1, 0), fact(0, 0, 0, 0, -1), worst(), without(0), without(1))
        self.assertEqual(run(*calls)[3:], [[1, 1], [2], [0, 1]])

    def test_the_fact_is_still_there(self):
        calls = (LOOP, fact(0, 1, 2), fact(0, 1, 4), without(0), way(0, 1, 1, 1), size(), without(1), worst(), least())
        self.assertEqual(run(*calls)[3:], [[0, 33], [2, 0], [0, 2, 2, 2, 0], [0, 19], [0, 19, 3, 1, 2], [0, 5, 5]])


class WithoutNoFact(unittest.TestCase):
    def test_at_the_beginning(self):
        for k in (0, 1, -1, FAR, -FAR):
            self.assertEqual(run(without(k), way(0)), [[-3], [0, 0]])

    def test_beside_the_facts_that_are_there(self):
        facts = [fact(0, 1, bound) for bound in range(6)]
        for many in range(7):
            for k in (-1, -many - 1, -many or -1, many, many + 1, FAR, -FAR):
                answers = run(LOOP, *facts[:many], without(k), unfact(0), way(0))[many + 1:]
                self.assertEqual(answers, [[-3], [0, many - 1] if many else [-3], [0, 5]], (many, k))

    def test_a_ban_is_no_fact(self):
        self.assertEqual(run(LOOP, ban(0, 1), without(0))[2], [-3])

    def test_a_fact_that_is_gone(self):
        self.assertEqual(run(LOOP, fact(0, 1, 1), fact(0, 1, 2), unfact(0), without(1))[4], [-3])
        self.assertEqual(run(LOOP, fact(0, 1, 1), LOOP, without(0))[3], [-3])

    def test_told_before_a_search_that_finds_none(self):
        self.assertEqual(run(LOOP, fact(1, 0, 0), without(1), without(-1))[2:], [[-3], [-3]])
