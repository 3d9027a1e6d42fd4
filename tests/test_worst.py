"""Promise 8: worst, gone and proof, box by box."""

import unittest

from tests.helper import (
    ban, fact, gone, graph, last, least, most, proof, recost, remost, run, told, unfact, way, without, worst,
)

# 0 to 1 by edge 0 (up to twice) and by edge 1 (once), back by edge 2 (once).
TWO_AND_BACK = graph(2, 0, 1, 3, 2, 0, 1, 5, 1, 1, 0, 0, 1)
# Every counts are refused by the fact, which narrows nothing: each box is parted down to one count each.
NEVER = fact(0, 0, 0, 0, -1)


def loops(*mosts):
    row = [2, 0, 1, 1, 1]
    for number in mosts:
        row += [0, 0, 1, number]
    return graph(*row)


class Parts(unittest.TestCase):
    def test_of_several_widest_edges_the_one_with_the_least_number(self):
        calls = (graph(2, 0, 1, 0, 1, 0, 0, 1, 1, 0, 0, 2, 1), worst(), proof())
        self.assertEqual(run(*calls)[1:], [[0, 3, 5, 1, 1, 1], [0, 3, 3, 1, 0, 3, 2, 0, 1, 1, 1]])

    def test_the_widest_edge_before_one_with_a_lesser_number(self):
        # Edge 2 at 1, then edge 1 at 0, then edge 2 at 2; that done, three are left by their bounds.
        calls = (graph(2, 0, 1, 0, 1, 0, 0, 1, 1, 0, 0, 2, 3), worst(), proof())
        self.assertEqual(run(*calls)[1:], [[0, 7, 7, 1, 1, 3], [0, 7, 3, 2, 1, 3, 1, 0, 3, 2, 2, 1, 1, 1, 1]])

    def test_the_width_is_high_less_low(self):
        # Edge 1 is from 5 to 9, edge 2 from 0 to 5.
        calls = (graph(2, 0, 1, 0, 1, 0, 0, 1, 9, 0, 0, 1, 5), fact(0, -1, 0, -5), proof())
        self.assertEqual(last(*calls)[2:5], [3, 2, 2])

    def test_half_is_rounded_down(self):
        for low, high, m in ((0, 9, 4), (1, 9, 5), (2, 9, 5), (3, 9, 6), (0, 1, 0), (8, 9, 8), (0, 2, 1), (2, 5, 3)):
            calls = (loops(high), fact(0, -1, -low), proof())
            self.assertEqual(last(*calls)[2:5], [3, 1, m])

    def test_a_surplus_above_0_the_greater_counts_first(self):
        self.assertEqual(last(loops(9), worst()), [0, 10, 7, 1, 9])
        self.assertEqual(last(loops(9), proof()), [0, 10, 3, 1, 4, 3, 1, 7, 3, 1, 8, 1, 1, 1, 1])

    def test_the_surplus_0_the_greater_counts_first(self):
        calls = (graph(2, 0, 1, 0, 1, 0, 0, 0, 9), worst(), proof())
        self.assertEqual(run(*calls)[1:], [[0, 0, 7, 1, 9], [0, 0, 3, 1, 4, 3, 1, 7, 3, 1, 8, 1, 1, 1, 1]])

    def test_a_surplus_below_0_the_lesser_counts_first(self):
        # The surpluses are -2, 0 and 5. Edge 0 is parted at 1, its lower part at 0: 0 1 0 is found, at 5. With edge 0
        # once (8 at most) it's parted at edge 1: 1 1 1 is found, at 8, 1 0 0 left. 2 0 1 is left: 6 at most.
        calls = (TWO_AND_BACK, worst(), proof(), gone())
        self.assertEqual(
            run(*calls)[1:],
            [[0, 8, 7, 1, 1, 1], [0, 8, 3, 0, 1, 3, 0, 0, 1, 3, 1, 0, 1, 1, 1], [0, 0, 2, 1]],
        )

    def test_the_surplus_hangs_on_the_costs_of_now(self):
        # Both edges from 0 to 1 cost the same: no surplus is below 0, and 2 0 1 is found first, at 10.
        calls = (TWO_AND_BACK, recost(0, 5), worst(), proof())
        self.assertEqual(run(*calls)[2:], [[0, 10, 3, 2, 0, 1], [0, 10, 3, 0, 1, 1, 1]])


class Left(unittest.TestCase):
    def test_counts_as_dear_as_those_found_do_not_take_their_place(self):
        calls = (graph(2, 0, 1, 4, 1, 0, 1, 4, 1), worst(), proof(), gone())
        self.assertEqual(run(*calls)[1:], [[0, 4, 3, 1, 0], [0, 4, 3, 0, 0, 1, 1], [0, 0]])

    def test_dearer_counts_take_the_place_of_those_found(self):
        # There's room for one of edges 1 and 2. With edge 1 it's 2; without it 3 at most, so it's parted at edge 2.
        calls = (graph(2, 0, 1, 0, 1, 0, 0, 2, 1, 0, 0, 3, 1), fact(0, 1, 1, 1), worst(), proof(), gone())
        self.assertEqual(run(*calls)[2:], [[0, 3, 5, 1, 0, 1], [0, 3, 3, 1, 0, 1, 3, 2, 0, 1, 1], [0, 2, 0]])

    def test_a_circle_that_cannot_be_come_to(self):
        calls = (graph(4, 0, 3, 1, 1, 1, 2, 1, 1, 2, 1, 1, 1), worst(), proof(), gone())
        self.assertEqual(run(*calls)[1:], [[0, 1, 3, 1, 0, 0], [0, 1, 3, 1, 0, 2, 1], [0, 0]])

    def test_counts_that_do_not_fit_alone(self):
        calls = (graph(2, 1, 1, 3, 1), worst(), proof(), gone())
        self.assertEqual(run(*calls)[1:], [[1, 3], [1, 3, 0, 0, 2, 2], [1]])

    def test_counts_that_are_not_let(self):
        calls = (graph(2, 0, 1, 5, 1), fact(0, -1), worst(), proof(), gone(), unfact(0), worst(), proof(), gone())
        self.assertEqual(run(*calls)[2:], [[1, 1], [1, 2], [1], [0, 0], [0, 5, 1, 1], [0, 5, 1], [0, 0]])

    def test_an_empty_part(self):
        # Twice three edges are never 3 together, which shows as soon as one of them has one count.
        calls = (loops(1, 1, 1), fact(0, 2, 2, 2, 3), fact(0, -2, -2, -2, -3), worst(), proof())
        self.assertEqual(run(*calls)[3:], [[1, 3], [1, 3, 1, 0, 0, 0]])

    def test_a_ban_in_a_part(self):
        # With edge 1 edge 2 is shut, at 2; without it it's parted at edge 2, and that one alone is found, at 3.
        calls = (graph(2, 0, 1, 1, 1, 0, 0, 1, 1, 0, 0, 2, 1), ban(1, 2), worst(), proof(), gone())
        self.assertEqual(run(*calls)[2:], [[0, 3, 5, 1, 0, 1], [0, 3, 3, 1, 0, 1, 3, 2, 0, 1, 1], [0, 2, 0]])


class Worst(unittest.TestCase):
    def test_what_is_known_is_kept(self):
        # Edge 1 at most four times as often as edge 2, that one at most twice.
        calls = (graph(3, 0, 1, 2, 9, 1, 1, 3, 9, 1, 0, 1, 9, 1, 2, 1, 1), fact(0, 1, -4, 0, 0), fact(0, 0, 1, 0, 2))
        found = run(*calls, worst(), gone())[3:]
        self.assertEqual(found[0][:2] + found[0][3:], [0, 2 * 3 + 3 * 8 + 2 + 1, 3, 8, 2, 1])
        self.assertEqual(found[1], [0, 0] + [1] * 8 + [2, 0, 2, 0, 3])

    def test_an_edge_back_and_on_from_the_exit(self):
        calls = (graph(2, 0, 1, 2, 3, 1, 0, 7, 9), worst(), gone())
        self.assertEqual(run(*calls)[1:], [[0, 20, 3, 3, 2], [0, 0, 1, 0, 1, 0]])

    def test_mosts_0(self):
        calls = (graph(2, 0, 1, 2, 1, 0, 0, 7, 0, 0, 1, 9, 0), worst(), gone(), remost(0, 0), worst(), gone(), proof())
        self.assertEqual(run(*calls)[1:], [[0, 2, 1, 1, 0, 0], [0, 0], [0], [1, 1], [1], [1, 0]])

    def test_eight_nodes_and_sixteen_edges(self):
        row = [8]
        for node in range(7):
            row += [node, node + 1, 1000, 9, node, node, 1000, 9]
        row += [7, 7, 1000, 9, 7, 0, 1000, 0]
        found = run(graph(*row), worst(), gone())[1:]
        self.assertEqual(found[0][:2] + found[0][3:], [0, 7000 + 8 * 9000] + [1, 9] * 7 + [9, 0])
        edges = [edge for node in range(7) for edge in [2 * node + 1] * 9 + [2 * node]] + [14] * 9
        self.assertEqual(found[1], [0] + edges)

    def test_the_way_gone_has_the_worst_cost_and_counts(self):
        row = (3, 0, 1, 4, 2, 1, 0, 3, 9, 1, 2, 5, 2, 2, 1, 6, 9, 2, 2, 1, 4)
        calls = (graph(*row), fact(1, 1, 1, 1, 1, 8), ban(1, 4))
        found = run(*calls, worst(), gone())
        cost, counts, edges = found[3][1], found[3][3:], found[4][1:]
        self.assertEqual([edges.count(edge) for edge in range(5)], counts)
        self.assertEqual(run(*calls, way(*edges), told(*counts))[3:], [[0, cost], [0] + edges])

    def test_the_beginning(self):
        self.assertEqual(run(worst(), gone(), proof()), [[0, 0, 1, 1], [0, 0], [0, 0, 1]])


class BrokenOff(unittest.TestCase):
    def test_399_boxes_are_taken(self):
        # 200 counts, so 200 boxes with one count each and 199 that are parted.
        calls = (loops(9, 9, 1), fact(0, 0, 0, 0, -1))
        found = run(*calls, worst(), gone(), proof(), least(), most(1), without(0))[2:]
        self.assertEqual(found[:2], [[1, 399], [1]])
        self.assertEqual((found[2][0], len(found[2])), (1, 1 + 200 + 3 * 199))
        self.assertEqual(found[3:], [[1, 399], [1], [0, 20]])

    def test_401_boxes_are_not(self):
        row = (2, 0, 1, 8, 1, 0, 0, 5, 8, 1, 1, 5, 7, 0, 0, 9, 1, 0, 0, 8, 4, 0, 0, 8, 9)
        calls = (graph(*row), fact(0, 2, 2, 4, 4, 4, 22))
        self.assertEqual(run(*calls, worst(), gone(), proof())[2:], [[2], [2], [2]])

    def test_all_are_answered_by_a_2_alone(self):
        calls = (loops(9, 9, 9), NEVER, worst(), gone(), least(), most(0), most(3), proof())
        self.assertEqual(run(*calls)[2:], [[2]] * 6)
        calls = (loops(9, 9, 9), fact(0, 0, 0, 0, 0), NEVER, without(0), without(1), without(2))
        self.assertEqual(run(*calls)[3:], [[2], [0, 28], [-3]])

    def test_though_counts_were_found(self):
        calls = (loops(9, 9, 9, 9), fact(0, 1, 1, 1, 1, 18))
        found = run(*calls, way(*[1] * 9, *[2] * 9, 0), worst(), gone(), proof(), without(0))[2:]
        self.assertEqual(found, [[0, 19], [2], [2], [2], [0, 37]])
