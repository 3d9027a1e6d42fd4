"""Promise 8: box, how the whole box is tightened."""

import unittest

from tests.helper import ban, box, check, fact, graph, last, remost, run, worst

# 0 to 1 once; two edges from 0 to itself, which are in no node's conditions.
LOOPS = graph(2, 0, 1, 1, 1, 0, 0, 1, 9, 0, 0, 1, 9)
THREE_LOOPS = graph(2, 0, 1, 1, 1, 0, 0, 1, 9, 0, 0, 1, 9, 0, 0, 1, 9)
TO_AND_FRO = graph(2, 0, 1, 1, 9, 1, 0, 1, 9)


def ranges(*calls):
    """What box answers, as a pair for each edge; None if the box is empty."""
    answer = last(*calls, box())
    if answer == [1]:
        return None
    if answer[0] != 0 or len(answer) % 2 == 0:
        raise AssertionError(answer)
    return list(zip(answer[1::2], answer[2::2]))


class ByFacts(unittest.TestCase):
    def test_the_high_is_rounded_down(self):
        highs = {-1: None, 0: 0, 1: 0, 3: 0, 4: 1, 7: 1, 8: 2, 10: 2, 11: 2, 12: 3, 35: 8, 36: 9, 37: 9, 1000: 9}
        for limit, high in highs.items():
            expected = None if high is None else [(1, 1), (0, high), (0, 9)]
            self.assertEqual(ranges(LOOPS, fact(0, 4, 0, limit)), expected, limit)

    def test_the_low_is_rounded_up(self):
        lows = {1: 0, 0: 0, -1: 1, -3: 1, -4: 1, -5: 2, -8: 2, -9: 3, -10: 3, -12: 3, -13: 4, -33: 9, -36: 9, -37: None}
        for limit, low in lows.items():
            expected = None if low is None else [(1, 1), (low, 9), (0, 9)]
            self.assertEqual(ranges(LOOPS, fact(0, -4, 0, limit)), expected, limit)

    def test_the_greatest_multiples_and_bounds(self):
        self.assertEqual(ranges(LOOPS, fact(0, 20, 0, 179)), [(1, 1), (0, 8), (0, 9)])
        self.assertEqual(ranges(LOOPS, fact(0, -20, 0, -161)), [(1, 1), (9, 9), (0, 9)])
        self.assertEqual(ranges(LOOPS, fact(20, 20, 20, 1000)), [(1, 1), (0, 9), (0, 9)])
        self.assertIsNone(ranges(LOOPS, fact(-20, -20, -20, -1000)))

    def test_the_rest_is_of_the_other_edges(self):
        self.assertEqual(ranges(LOOPS, fact(0, -1, 0, -1), fact(0, 4, 0, 10)), [(1, 1), (1, 2), (0, 9)])
        self.assertEqual(ranges(LOOPS, fact(0, 1, 0, 8), fact(0, -4, 0, -10)), [(1, 1), (3, 8), (0, 9)])

    def test_the_rest_of_multiples_above_0_is_by_lows(self):
        # 3 * 2 for edge 1's low: 2 * h at most 9 for edge 2.
        self.assertEqual(ranges(LOOPS, fact(0, -1, 0, -2), fact(0, 3, 2, 15)), [(1, 1), (2, 5), (0, 4)])

    def test_the_rest_of_multiples_below_0_is_by_highs(self):
        # -3 * 3 for edge 2's high: 2 * h at most 9 for edge 1; 2 * 2 for edge 1's low: -3 * l at most -4 for edge 2.
        self.assertEqual(ranges(LOOPS, fact(0, 0, 1, 3), fact(0, 2, -3, 0)), [(1, 1), (0, 4), (0, 3)])
        calls = (LOOPS, fact(0, 0, 1, 3), fact(0, -1, 0, -2), fact(0, 2, -3, 0))
        self.assertEqual(ranges(*calls), [(1, 1), (2, 4), (2, 3)])

    def test_the_multiple_0(self):
        self.assertEqual(ranges(LOOPS, fact(0, 0, 0, -1)), [(1, 1), (0, 9), (0, 9)])
        self.assertEqual(ranges(LOOPS, fact(0, 0, 0, -1000)), [(1, 1), (0, 9), (0, 9)])

    def test_six_facts(self):
        calls = [LOOPS, fact(0, 1, 0, 8), fact(0, 0, 1, 7), fact(0, -1, 0, -2), fact(0, 0, -1, -3)]
        calls += [fact(0, 1, 1, 10), fact(0, 2, -5, -20)]
        # Edge 1 at most 7 by the fifth; -5 * l at most -24 for edge 2, so 5; then edge 1 at most 5.
        self.assertEqual(ranges(*calls), [(1, 1), (2, 5), (5, 7)])


class ByNodes(unittest.TestCase):
    def test_what_comes_is_what_leaves(self):
        # 0 to 1 once, 1 to 2 up to 4 times, back up to 9 times: edge 1 is edge 2 and 1.
        row = (3, 0, 1, 1, 1, 1, 2, 1, 4, 2, 1, 1, 9)
        self.assertEqual(ranges(graph(*row)), [(1, 1), (1, 4), (0, 3)])
        self.assertEqual(ranges(graph(*row), fact(0, 0, -1, -2)), [(1, 1), (3, 4), (2, 3)])
        self.assertEqual(ranges(graph(*row), fact(0, 1, 0, 2)), [(1, 1), (1, 2), (0, 1)])

    def test_an_edge_from_a_node_to_itself_is_free(self):
        row = (3, 0, 0, 1, 5, 0, 1, 1, 9, 1, 1, 1, 6, 1, 2, 1, 9, 2, 2, 1, 7)
        self.assertEqual(ranges(graph(*row)), [(0, 5), (1, 1), (0, 6), (1, 1), (0, 7)])

    def test_an_edge_back_to_the_entry_and_one_from_the_exit(self):
        self.assertEqual(ranges(TO_AND_FRO), [(1, 9), (0, 8)])
        self.assertEqual(ranges(TO_AND_FRO, remost(1, 3)), [(1, 4), (0, 3)])

    def test_edges_with_the_same_nodes_share(self):
        row = (2, 0, 1, 1, 9, 0, 1, 1, 9, 0, 1, 1, 9)
        self.assertEqual(ranges(graph(*row)), [(0, 1), (0, 1), (0, 1)])
        self.assertEqual(ranges(graph(*row), remost(0, 0), remost(2, 0)), [(0, 0), (1, 1), (0, 0)])

    def test_the_entry_and_the_exit_cannot_be_done_without(self):
        self.assertIsNone(ranges(graph(2, 0, 1, 1, 0)))
        self.assertIsNone(ranges(graph(3, 0, 1, 1, 9)))
        self.assertIsNone(ranges(graph(3, 1, 2, 1, 9)))
        self.assertIsNone(ranges(graph(3, 1, 0, 1, 9)))

    def test_an_entry_and_an_exit_without_an_edge_narrow_nothing(self):
        self.assertEqual(ranges(graph(2, 0, 0, 1, 9, 1, 1, 1, 5)), [(0, 9), (0, 5)])

    def test_eight_nodes_and_sixteen_edges(self):
        # From node to node, each to itself, and back from the exit to the entry up to twice.
        row = [8]
        for node in range(7):
            row += [node, node + 1, 1, 9, node, node, 1, node + 2]
        row += [7, 7, 1, 0, 7, 0, 1, 2]
        expected = [pair for node in range(7) for pair in ((1, 3), (0, node + 2))] + [(0, 0), (0, 2)]
        self.assertEqual(ranges(graph(*row)), expected)


class ByBans(unittest.TestCase):
    def test_only_a_low_above_0_narrows(self):
        self.assertEqual(ranges(LOOPS, ban(1, 2)), [(1, 1), (0, 9), (0, 9)])
        self.assertEqual(ranges(LOOPS, ban(1, 2), fact(0, -1, 0, -1)), [(1, 1), (1, 9), (0, 0)])
        self.assertEqual(ranges(LOOPS, ban(1, 2), fact(0, 0, -1, -1)), [(1, 1), (0, 0), (1, 9)])
        self.assertEqual(ranges(LOOPS, ban(2, 1), fact(0, 0, -1, -1)), [(1, 1), (0, 0), (1, 9)])

    def test_both_lows_above_0(self):
        self.assertIsNone(ranges(LOOPS, ban(1, 2), fact(0, -1, 0, -1), fact(0, 0, -1, -1)))

    def test_an_edge_that_every_way_has(self):
        self.assertEqual(ranges(LOOPS, ban(2, 0)), [(1, 1), (0, 9), (0, 0)])
        self.assertEqual(ranges(LOOPS, ban(0, 2), ban(1, 0)), [(1, 1), (0, 0), (0, 0)])

    def test_four_bans_one_behind_another(self):
        # Each ban shuts an edge, and the parallel one has a low above 0 then.
        row = [5]
        for node in range(4):
            row += [node, node + 1, 1, 1, node, node + 1, 1, 1]
        calls = (graph(*row), remost(0, 0), ban(1, 2), ban(3, 4), ban(5, 6), ban(7, 0))
        self.assertEqual(ranges(*calls), [(0, 0), (1, 1)] * 4)
        calls = (graph(*row), remost(0, 0), ban(7, 1), ban(5, 6), ban(3, 4), ban(1, 2))
        self.assertIsNone(ranges(*calls))

    def test_a_high_that_is_0_stays(self):
        self.assertEqual(ranges(LOOPS, remost(2, 0), ban(0, 2)), [(1, 1), (0, 9), (0, 0)])


class Rounds(unittest.TestCase):
    def test_six_at_most(self):
        # In each round edge 1's high falls by 1, and edge 2's to the same.
        calls = (LOOPS, fact(0, 10, -9, 0), fact(0, -1, 1, 0))
        self.assertEqual(ranges(*calls), [(1, 1), (0, 3), (0, 3)])
        self.assertEqual(ranges(*calls, remost(1, 7), remost(2, 7)), [(1, 1), (0, 1), (0, 1)])
        self.assertEqual(ranges(*calls, remost(1, 6), remost(2, 6)), [(1, 1), (0, 0), (0, 0)])

    def test_facts_in_their_order(self):
        calls = (LOOPS, fact(0, -1, 1, 0), fact(0, 10, -9, 0))
        self.assertEqual(ranges(*calls), [(1, 1), (0, 3), (0, 4)])

    def test_facts_before_nodes(self):
        # Edge 0 is edge 1 and 1. In the second to the sixth round the fact takes 1 from edge 0's high, the nodes
        # from edge 1's, which is 8 behind the first one.
        self.assertEqual(ranges(TO_AND_FRO, fact(10, -9, 10)), [(1, 4), (0, 3)])

    def test_nodes_in_their_order(self):
        # The edge to the exit is shut, and against the nodes' order each round shuts only one more edge of the
        # chain. Behind 6 rounds the first one is shut too, but the fact that the last edge isn't above it comes late.
        for nodes, high in ((7, 0), (8, 1)):
            row = [nodes]
            for node in range(nodes - 2):
                row += [node, node + 1, 1, 1]
            row += [nodes - 2, nodes - 1, 1, 0] + [0, nodes - 1, 1, 1] * 2 + [0, 0, 1, 1]
            not_above = fact(-1, *[0] * nodes, 1, 0)
            expected = [(0, 0)] * (nodes - 1) + [(0, 1), (0, 1), (0, high)]
            self.assertEqual(ranges(graph(*row), not_above), expected)

    def test_bans_behind_the_conditions(self):
        # Edge 1's high is 3 in the sixth round, so edge 3's low is 1, and the ban shuts edge 0: still in this round.
        calls = (THREE_LOOPS, fact(0, 10, -9, 0, 0), fact(0, -1, 1, 0, 0), fact(0, -1, 0, -1, -4))
        self.assertEqual(ranges(*calls), [(1, 1), (0, 3), (0, 3), (1, 9)])
        self.assertIsNone(ranges(*calls, ban(0, 3)))
        row = (2, 0, 1, 1, 1, 0, 0, 1, 9, 0, 0, 1, 9, 0, 0, 1, 9, 0, 0, 1, 9)
        facts = (fact(0, 10, -9, 0, 0, 0), fact(0, -1, 1, 0, 0, 0), fact(0, -1, 0, -1, 0, -4))
        expected = [(1, 1), (0, 3), (0, 3), (1, 9), (0, 0)]
        self.assertEqual(ranges(graph(*row), *facts, ban(3, 4)), expected)
        self.assertEqual(ranges(graph(*row), *facts, ban(4, 3)), expected)

    def test_empty_behind_a_later_round(self):
        # Edge 1 is less than edge 2, and edge 2 isn't above edge 1: lows and highs meet after some rounds.
        calls = (LOOPS, fact(0, 1, -1, -1), fact(0, -1, 1, 0))
        self.assertIsNone(ranges(*calls))
        self.assertEqual(run(*calls, worst(), check(0, 0))[3:], [[1, 1], [1]])

    def test_what_is_not_seen_behind_six_rounds_is_seen_in_the_parts(self):
        # Edges 1 and 2 can't but be 0, which the whole box doesn't show.
        calls = (LOOPS, fact(0, 10, -9, 0), fact(0, -1, 1, 0))
        self.assertEqual(last(*calls, worst())[:2], [0, 1])
        self.assertEqual(last(*calls, worst())[3:], [1, 0, 0])


class TheBeginning(unittest.TestCase):
    def test_one_edge_once(self):
        self.assertEqual(run(box(), ban(0, 1), fact(1, 0), box(), remost(0, 0), box()), [
            [0, 1, 1], [-3], [0, 1], [1], [0], [1],
        ])
