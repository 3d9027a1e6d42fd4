"""The document's own example, whole."""

import unittest

from tests.helper import (
    ban, bound, box, check, fact, fits, gone, graph, least, most, proof, run, size, way, without, worst,
)
from worstways.graphs import answers

EXAMPLE = graph(3, 0, 1, 5, 1, 1, 1, 7, 9, 1, 2, 1, 1)
KNOWN = fact(0, 1, 0, 4)


class Example(unittest.TestCase):
    def test_call_by_call(self):
        told_and_answered = [
            (EXAMPLE, [0, 3, 3]),
            (bound(), [0, 69, 6, 1, 0]),
            (worst(), [0, 69, 7, 1, 9, 1]),
            (proof(), [0, 69, 3, 1, 4, 3, 1, 7, 3, 1, 8, 1, 1, 1, 1]),
            (check(69, 1), [1]),
            (check(68, 1), [0]),
            (KNOWN, [0, 1]),
            (worst(), [0, 34, 5, 1, 4, 1]),
            (gone(), [0, 0, 1, 1, 1, 1, 2]),
            (without(0), [0, 69]),
            (least(), [0, 6, 7]),
            (most(1), [0, 4]),
            (box(), [0, 1, 1, 0, 4, 1, 1]),
            (way(0, 2), [0, 6]),
            (way(0, 1, 1, 1, 1, 1, 2), [2, 0]),
            (way(1, 2), [-10]),
            (fits(1, 0, 0), [0]),
            (ban(0, 2), [0, 1]),
            (worst(), [1, 1]),
            (size(), [0, 3, 3, 1, 1]),
        ]
        self.assertEqual(
            run(*[call for call, answer in told_and_answered]),
            [answer for call, answer in told_and_answered],
        )

    def test_once_more_with_the_ban(self):
        asked = [bound(), worst(), gone(), least(), most(0), most(1), without(0), proof(), box()]
        self.assertEqual(
            run(EXAMPLE, KNOWN, ban(0, 2), *asked)[3:],
            [[0, 69, 6, 1, 0], [1, 1], [1], [1, 1], [1], [1], [1], [1, 0], [1]],
        )

    def test_ways_of_the_example(self):
        calls = (EXAMPLE, KNOWN, way(0, 1, 1, 1, 1, 2), ban(0, 2), way(0, 1, 1, 1, 1, 2))
        self.assertEqual(run(*calls)[2:], [[0, 34], [0, 1], [3, 0]])

    def test_as_the_interface_writes_it(self):
        calls = [0, 13, 3, 0, 1, 5, 1, 1, 1, 7, 9, 1, 2, 1, 1, 11, 12, 17, 18, 69, 1, 1, 18, 68, 1, 1]
        self.assertEqual(
            answers(calls),
            [3, 0, 3, 3, 5, 0, 69, 6, 1, 0, 6, 0, 69, 7, 1, 9, 1]
            + [15, 0, 69, 3, 1, 4, 3, 1, 7, 3, 1, 8, 1, 1, 1, 1, 1, 1, 1, 0],
        )
        calls = calls[:15] + [1, 4, 0, 1, 0, 4, 12, 13, 16, 0, 14, 15, 1, 10, 7, 2, 0, 2, 16, 1, 2, 0, 2, 12, 19]
        self.assertEqual(
            answers(calls),
            [3, 0, 3, 3, 2, 0, 1, 6, 0, 34, 5, 1, 4, 1, 7, 0, 0, 1, 1, 1, 1, 2, 2, 0, 69, 3, 0, 6, 7, 2, 0, 4]
            + [7, 0, 1, 1, 0, 4, 1, 1, 2, 0, 6, 1, -3, 2, 0, 1, 2, 1, 1, 5, 0, 3, 3, 1, 1],
        )
