"""Promise 7: fits and told."""

import itertools
import unittest

from tests.helper import FAR, ban, fact, fits, graph, last, remost, run, told, way

TRIANGLE = (3, 0, 2, 1, 1, 0, 1, 1, 1, 1, 0, 1, 1, 1, 1, 1, 1)
SMALL_GRAPHS = (
    TRIANGLE,
    (2, 1, 0, 1, 1, 0, 1, 1, 1, 1, 1, 1, 1, 0, 0, 1, 1, 0, 1, 1, 1),
    (3, 2, 1, 1, 1, 1, 0, 1, 1, 0, 1, 1, 1, 1, 2, 1, 1, 0, 2, 1, 1),
    (4, 1, 2, 1, 1, 2, 1, 1, 1, 0, 3, 1, 1, 3, 1, 1, 1, 1, 3, 1, 1),
    (3, 2, 2, 1, 1, 2, 0, 1, 1, 0, 0, 1, 1, 0, 2, 1, 1, 1, 1, 1, 1),
    (5, 0, 1, 1, 1, 1, 2, 1, 1, 2, 3, 1, 1, 3, 4, 1, 1, 3, 1, 1, 1),
)


def first_way(row, counts):
    """The first way with these counts by edges' numbers, or None: all ways are gone through."""
    nodes, leaves, comes = row[0], row[1::4], row[2::4]
    waiting = [(0, (), tuple(counts))]
    while waiting:
        node, edges, left = waiting.pop()
        if not any(left) and node == nodes - 1:
            return list(edges)
        for edge in reversed(range(len(left))):
            if leaves[edge] == node and left[edge]:
                less = left[:edge] + (left[edge] - 1,) + left[edge + 1:]
                waiting.append((comes[edge], edges + (edge,), less))
    return None


class AllSmallCounts(unittest.TestCase):
    def test_as_going_through_all_ways_tells(self):
        fitting = 0
        for row in SMALL_GRAPHS:
            for counts in itertools.product(range(3), repeat=len(row) // 4):
                expected = first_way(row, counts)
                answers = run(graph(*row), fits(*counts), told(*counts))[1:]
                if expected is None:
                    self.assertEqual(answers, [[0], [1]], (row, counts))
                else:
                    fitting += 1
                    self.assertEqual(answers, [[1], [0] + expected], (row, counts))
        self.assertGreater(fitting, 50)


class Fits(unittest.TestCase):
    def test_no_edge_at_all(self):
        self.assertEqual(run(graph(*TRIANGLE), fits(0, 0, 0, 0), told(0, 0, 0, 0))[1:], [[0], [1]])

    def test_a_circle_apart(self):
        row = (4, 0, 3, 1, 1, 1, 2, 1, 1, 2, 1, 1, 1)
        self.assertEqual(run(graph(*row), fits(1, 0, 0), fits(1, 1, 1), told(1, 9, 9))[1:], [[1], [0], [1]])

    def test_a_circle_by_an_edge_with_the_count_0(self):
        row = (3, 0, 2, 1, 1, 0, 1, 1, 1, 1, 0, 1, 1, 1, 1, 1, 1)
        self.assertEqual(run(graph(*row), fits(1, 0, 0, 1), fits(1, 1, 1, 1))[1:], [[0], [1]])

    def test_a_circle_behind_the_exit(self):
        row = (3, 0, 2, 1, 1, 2, 1, 1, 1, 1, 2, 1, 1)
        self.assertEqual(run(graph(*row), fits(1, 9, 9), told(1, 2, 2))[1:], [[1], [0, 0, 1, 2, 1, 2]])

    def test_a_circle_at_the_entry_alone(self):
        row = (2, 0, 0, 1, 1, 0, 1, 1, 1)
        self.assertEqual(run(graph(*row), fits(1, 0), fits(1, 1), fits(9, 1), fits(1, 2))[1:], [[0], [1], [1], [0]])

    def test_found_against_the_order_of_numbers(self):
        row = (8, 6, 7, 1, 1, 5, 6, 1, 1, 4, 5, 1, 1, 3, 4, 1, 1, 2, 3, 1, 1, 1, 2, 1, 1, 0, 1, 1, 1)
        self.assertEqual(run(graph(*row), fits(*[1] * 7), told(*[1] * 7))[1:], [[1], [0, 6, 5, 4, 3, 2, 1, 0]])

    def test_mosts_facts_and_bans_do_not_matter(self):
        row = (2, 0, 0, 1, 1, 0, 1, 1, 1)
        calls = (graph(*row), remost(0, 0), fact(1, 1, -1), ban(0, 1), fits(9, 1), told(3, 1), way(0, 0, 0, 1))
        self.assertEqual(run(*calls)[4:], [[1], [0, 0, 0, 0, 1], [1, 0]])


class Told(unittest.TestCase):
    def test_the_least_edge_would_end_too_soon(self):
        self.assertEqual(last(graph(*TRIANGLE), told(1, 1, 1, 0)), [0, 1, 2, 0])
        self.assertEqual(last(graph(*TRIANGLE), told(1, 1, 1, 2)), [0, 1, 3, 3, 2, 0])

    def test_the_least_edge_would_leave_a_circle_behind(self):
        row = (3, 1, 2, 1, 1, 0, 1, 1, 1, 1, 1, 1, 1)
        self.assertEqual(last(graph(*row), told(1, 1, 3)), [0, 1, 2, 2, 2, 0])

    def test_of_edges_with_the_same_nodes_the_least(self):
        row = (2, 0, 1, 1, 1, 0, 1, 1, 1, 1, 0, 1, 1)
        self.assertEqual(last(graph(*row), told(1, 1, 1)), [0, 0, 2, 1])

    def test_fifteen_edges_nine_times(self):
        row = [2] + [0, 0, 1, 9] * 15 + [0, 1, 1, 9]
        expected = [edge for edge in range(15) for time in range(9)] + [15]
        self.assertEqual(last(graph(*row), told(*[9] * 15, 1)), [0] + expected)

    def test_to_and_fro(self):
        row = [2] + [0, 1, 1, 9] * 8 + [1, 0, 1, 9] * 8
        to = [edge for edge in range(8) for time in range(9)]
        fro = [edge for edge in range(8, 16) for time in range(9)][:-1]
        expected = [edge for pair in zip(to, fro) for edge in pair] + [to[-1]]
        self.assertEqual(run(graph(*row), fits(*[9] * 15, 8), told(*[9] * 15, 8))[1:], [[1], [0] + expected])
        self.assertEqual(run(graph(*row), fits(*[9] * 16), told(*[9] * 16))[1:], [[0], [1]])

    def test_it_has_the_counts_it_was_told(self):
        row = [8]
        for node in range(7):
            row += [node, node + 1, 1, 9, node + 1, node, 1, 9]
        counts = [9, 8] * 7
        answer = last(graph(*row), told(*counts))
        self.assertEqual([answer[1:].count(edge) for edge in range(14)], counts)
        self.assertEqual(last(graph(*row), way(*answer[1:])), [0, 119])


class WrongRows(unittest.TestCase):
    def test_wrong_rows(self):
        right = [1, 1, 1, 0]
        rows = [right[:length] for length in range(4)] + [right + [0], right * 2, [0] * 2000]
        for place in range(4):
            for wrong in (-1, 10, FAR, -FAR):
                row = list(right)
                row[place] = wrong
                rows.append(row)
        for row in rows:
            calls = (graph(*TRIANGLE), fits(*row), told(*row), fits(*right), told(*right))
            self.assertEqual(run(*calls)[1:], [[-12], [-12], [1], [0, 1, 2, 0]], row)

    def test_counts_0_and_9(self):
        self.assertEqual(run(graph(*TRIANGLE), fits(1, 9, 9, 9), fits(9, 9, 9, 9))[1:], [[1], [0]])
        self.assertEqual(last(graph(*TRIANGLE), told(1, 9, 9, 9)), [0] + [1, 2] * 8 + [1] + [3] * 9 + [2, 0])

    def test_an_empty_list(self):
        self.assertEqual(run(fits(), told()), [[-12], [-12]])
