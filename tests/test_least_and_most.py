"""Promises 8 and 9: least and most."""

import unittest

from tests.helper import (
    FAR, ban, box, fact, gone, graph, last, least, most, proof, recost, remost, run, size, way, worst,
)

LOOP = graph(2, 0, 1, 1, 1, 0, 0, 1, 9)
# 0 to 1 by edge 0 (up to twice) and by edge 1 (once), back by edge 2 (once).
TWO_AND_BACK = graph(2, 0, 1, 3, 2, 0, 1, 5, 1, 1, 0, 0, 1)
APART = graph(4, 0, 3, 1, 1, 1, 2, 1, 1, 2, 1, 1, 1)


class Least(unittest.TestCase):
    def test_the_lesser_counts_come_first(self):
        # 0 to 9, 0 to 4, 0 to 2, 0 to 1, 0; then 1, 2, 3 to 4 and 5 to 9 are left.
        self.assertEqual(last(LOOP, least()), [0, 1, 9])

    def test_an_edge_that_costs_nothing_has_its_greater_counts_first(self):
        self.assertEqual(run(LOOP, recost(1, 0), least(), recost(0, 0), least())[2::2], [[0, 1, 7], [0, 0, 7]])

    def test_the_potentials_are_for_the_costs_times_minus_1(self):
        # By 1 it's 9, past it 7: the entry's potential is -7, edge 0's surplus -2, so it's left out first.
        self.assertEqual(last(graph(3, 0, 1, 5, 1, 1, 2, 4, 1, 0, 2, 7, 1), least()), [0, 7, 3])
        # By 1 it's 9, past it 12: edge 2's surplus is -3, edge 0's 0, so it's taken first.
        self.assertEqual(last(graph(3, 0, 1, 5, 1, 1, 2, 4, 1, 0, 2, 12, 1), least()), [0, 9, 3])

    def test_what_is_known_is_kept(self):
        # Edge 1 is 4 at least: from 4 to 9, 4 to 6, 4 to 5, 4 by itself is found.
        self.assertEqual(last(LOOP, fact(0, -2, -7), least()), [0, 5, 7])
        self.assertEqual(last(TWO_AND_BACK, fact(-1, 0, 0, -1), least())[:2], [0, 3])
        self.assertEqual(last(TWO_AND_BACK, fact(0, 0, -1, -1), least())[:2], [0, 6])
        self.assertEqual(last(TWO_AND_BACK, fact(0, 0, -1, -1), fact(1, 0, 0, 1), least())[:2], [0, 8])
        self.assertEqual(last(TWO_AND_BACK, fact(0, 0, -1, -1), fact(1, 0, 0, 1), ban(0, 1), least())[:1], [1])

    def test_it_is_not_above_the_worst(self):
        self.assertEqual(run(TWO_AND_BACK, least(), worst())[1:], [[0, 3, 7], [0, 8, 7, 1, 1, 1]])

    def test_none_that_is_let(self):
        self.assertEqual(last(LOOP, remost(0, 0), least()), [1, 1])
        self.assertEqual(last(graph(2, 1, 1, 3, 1), least()), [1, 3])
        self.assertEqual(last(LOOP, fact(0, 0, -1), least()), [1, 19])

    def test_the_beginning(self):
        self.assertEqual(run(least(), recost(0, 8), least()), [[0, 0, 1], [0], [0, 8, 1]])


class Most(unittest.TestCase):
    def test_each_edge(self):
        self.assertEqual(run(TWO_AND_BACK, most(0), most(1), most(2))[1:], [[0, 2], [0, 1], [0, 1]])
        self.assertEqual(run(LOOP, most(0), most(1))[1:], [[0, 1], [0, 9]])

    def test_what_is_known_is_kept(self):
        calls = (TWO_AND_BACK, fact(1, 0, 1, 2), most(0), most(1), most(2), ban(0, 1), most(0), most(1), most(2))
        self.assertEqual(run(*calls)[2:], [[0, 1], [0, 1], [0, 1], [0, 1], [0, 1], [0, 1], [0, 0]])
        self.assertEqual(run(LOOP, fact(0, 3, 20), most(1), remost(1, 4), most(1))[2::2], [[0, 6], [0, 4]])

    def test_an_edge_that_no_way_has(self):
        self.assertEqual(run(APART, most(0), most(1), most(2))[1:], [[0, 1], [0, 0], [0, 0]])
        self.assertEqual(run(LOOP, remost(1, 0), most(1))[2], [0, 0])

    def test_costs_do_not_matter(self):
        calls = (TWO_AND_BACK, recost(0, 0), recost(1, 1000), recost(2, 500), most(0), most(1), most(2))
        self.assertEqual(run(*calls)[4:], [[0, 2], [0, 1], [0, 1]])

    def test_none_that_is_let(self):
        self.assertEqual(run(LOOP, remost(0, 0), most(0), most(1))[2:], [[1], [1]])
        self.assertEqual(run(LOOP, fact(0, 0, -1), most(0), most(1))[2:], [[1], [1]])

    def test_no_edge(self):
        for e in (-1, -2, -3, 3, 4, 16, FAR, -FAR):
            self.assertEqual(run(TWO_AND_BACK, most(e), most(2))[1:], [[-3], [0, 1]])
            self.assertEqual(run(TWO_AND_BACK, remost(0, 0), remost(1, 0), most(e))[3], [-3])

    def test_no_edge_is_told_before_a_search_that_is_broken_off(self):
        row = (2, 0, 1, 1, 1, 0, 0, 1, 9, 0, 0, 1, 9, 0, 0, 1, 9)
        self.assertEqual(run(graph(*row), fact(0, 0, 0, 0, -1), most(4), most(3), least())[2:], [[-3], [2], [2]])

    def test_the_last_of_sixteen_edges(self):
        row = [2, 0, 1, 1, 1] + [0, 0, 1, 0] * 14 + [0, 0, 1, 9]
        self.assertEqual(run(graph(*row), most(15), most(14), most(16))[1:], [[0, 9], [0, 0], [-3]])

    def test_the_beginning(self):
        self.assertEqual(run(most(0), most(1), most(-1)), [[0, 1], [-3], [-3]])


class NothingChanges(unittest.TestCase):
    def test_the_costs_are_as_they_were(self):
        asked = (worst(), gone(), proof(), way(0, 2, 1), box(), size())
        expected = run(TWO_AND_BACK, *asked)[1:]
        self.assertEqual(run(TWO_AND_BACK, least(), most(0), most(2), *asked)[4:], expected)
