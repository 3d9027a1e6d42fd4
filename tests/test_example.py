"""The document's own example, as far as the calls that are built go."""

import unittest

from tests.helper import ban, fact, fits, graph, run, way, without
from worstways.graphs import answers

EXAMPLE = graph(3, 0, 1, 5, 1, 1, 1, 7, 9, 1, 2, 1, 1)


class Example(unittest.TestCase):
    def test_call_by_call(self):
        self.assertEqual(
            run(
                EXAMPLE,
                fact(0, 1, 0, 4),
                way(0, 2),
                way(0, 1, 1, 1, 1, 1, 2),
                way(1, 2),
                fits(1, 0, 0),
                ban(0, 2),
            ),
            [[0, 3, 3], [0, 1], [0, 6], [2, 0], [-10], [0], [0, 1]],
        )

    def test_ways_of_the_example(self):
        calls = (EXAMPLE, fact(0, 1, 0, 4), way(0, 1, 1, 1, 1, 2), ban(0, 2), way(0, 1, 1, 1, 1, 2))
        self.assertEqual(run(*calls)[2:], [[0, 34], [0, 1], [3, 0]])

    def test_as_the_interface_writes_it(self):
        calls = [0, 13, 3, 0, 1, 5, 1, 1, 1, 7, 9, 1, 2, 1, 1, 1, 4, 0, 1, 0, 4, 7, 2, 0, 2, 16, 1]
        self.assertEqual(answers(calls), [3, 0, 3, 3, 2, 0, 1, 2, 0, 6, 1, -3])

    def test_without_when_the_fact_is_not_there(self):
        self.assertEqual(run(EXAMPLE, without(0), fact(0, 1, 0, 4), without(1))[1::2], [[-3], [-3]])
