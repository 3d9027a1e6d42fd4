"""How calls are handed in and answered, and that a refusal leaves the object as it was."""

import unittest

from tests.helper import (
    FAR, ban, bound, box, check, fact, fits, gone, graph, last, least, most, proof, recost, remost, run, size, split,
    told, unban, unfact, way, without, worst,
)
from worstways.graphs import answers

NET = graph(3, 0, 1, 5, 1, 1, 1, 7, 9, 1, 2, 1, 2, 2, 1, 3, 2, 0, 2, 50, 1)
FULL = (
    NET,
    fact(0, 1, 0, 0, 0, 8), fact(0, 1, 0, 0, 0, 7), fact(0, 1, 0, 0, 0, 6),
    fact(0, 1, 0, 0, 0, 5), fact(0, 1, 0, 0, 0, 4), fact(0, 1, 0, -2, 0, 3),
    ban(0, 4), ban(3, 4), ban(1, 4), ban(2, 3),
)
WAYS = [way(0, *[1] * often, 2) for often in range(11)]
OTHER_WAYS = [way(4), way(4, 3, 2), way(0, 2, 3, 2), way(0, 1, 2, 3, 2), way(0, 2, 3, 2, 3, 2)]
COUNTS = [told(1, 2, 1, 0, 0), told(0, 0, 1, 1, 1), fits(1, 1, 1, 1, 1), told(1, 9, 2, 1, 0), fits(0, 0, 0, 0, 1)]
# What's held shows in these together: each fact and each ban is the first that's not kept somewhere.
PROBES = (
    WAYS + OTHER_WAYS + COUNTS,
    [call for k in range(6) for call in (unfact(0), way(0, *[1] * 9, 2), way(0, *[1] * 5, 2))],
    [call for k in range(4) for call in (unban(0), *OTHER_WAYS)],
    [fact(0, 0, 0, 0, 0, 0), ban(0, 1), unfact(5), unban(3), fact(0, 0, 0, 0, 0, -1), way(4)],
    [size(), box(), bound(), worst(), gone(), least(), proof(), without(0), most(1), check(50, 1), check(49, 1)],
)
ASKED = (
    WAYS[0], WAYS[10], OTHER_WAYS[0], *COUNTS, box(), bound(), worst(), gone(), least(), *[most(e) for e in range(5)],
    *[without(k) for k in range(6)], proof(), check(0), check(50, 1), check(49, 1), check(FAR, 3, 0, 0, 1, 1), size(),
)
# The search is broken off: no counts keep the last fact, which narrows nothing.
ENDLESS = (
    graph(2, 0, 1, 1, 1, *[0, 0, 1, 9] * 15),
    *[fact(*[1] * 16, 136), fact(*[-1] * 16, 0)] * 2, fact(*[20] * 16, 1000), fact(*[0] * 16, -1),
    *[ban(e, 15 - e) for e in range(1, 5)],
)
REFUSED = (
    (graph(), -12), (graph(2), -12), (graph(2, 0, 1, 1), -12), (graph(2, 0, 1, 1, 10), -12),
    (graph(2, 0, 1, 1, 1, 0, 1, 1001, 1), -12), (graph(3, 0, 1, 5, 1, 0, 3, 5, 1), -12), (graph(FAR), -12),
    (graph(2, *[0, 1, 1, 1] * 17), -12), (graph(2, 0, 1, 1, 1, 0), -12), (graph(9, 0, 1, 1, 1), -12),
    (fact(), -12), (fact(0, 0, 0, 0, 0), -12), (fact(0, 0, 0, 0, 21, 0), -12), (fact(0, 0, 0, 0, 0, -1001), -12),
    (fact(0, 0, 0, 0, 0, -1), -9), (fact(-FAR, 0, 0, 0, 0, 0), -12),
    (ban(0, 5), -3), (ban(-1, 0), -3), (ban(1, 1), -3), (ban(0, 1), -9), (ban(FAR, -FAR), -3),
    (unfact(6), -3), (unfact(-1), -3), (unfact(-6), -3), (unfact(FAR), -3),
    (unban(4), -3), (unban(-1), -3), (unban(-4), -3), (unban(-FAR), -3),
    (recost(5, 1), -3), (recost(-1, 1), -3), (recost(0, -1), -7), (recost(0, 1001), -7), (recost(5, -1), -3),
    (remost(5, 1), -3), (remost(-1, 1), -3), (remost(0, -1), -7), (remost(0, 10), -7), (remost(-1, 10), -3),
    (way(), -10), (way(0), -10), (way(2), -10), (way(5), -10), (way(-1), -10), (way(FAR), -10),
    (fits(), -12), (fits(1, 0, 0, 0), -12), (fits(1, 0, 0, 0, 10), -12), (fits(1, 0, 0, 0, 0, 0), -12),
    (told(), -12), (told(1, 0, 0, 0), -12), (told(1, 0, 0, 0, -1), -12), (told(1, 0, 0, 0, 0, 0), -12),
    (without(6), -3), (without(-1), -3), (without(-FAR), -3), (without(FAR), -3),
    (most(5), -3), (most(-1), -3), (most(-5), -3), (most(FAR), -3), (most(-FAR), -3),
)


class ReadOnly(list):
    """A list that can't be changed, not for a while either."""

    def refuse(self, *given, **named):
        raise AssertionError("the list handed in is changed")

    append = extend = insert = pop = remove = clear = sort = reverse = refuse
    __setitem__ = __delitem__ = __iadd__ = __imul__ = refuse


class Refusals(unittest.TestCase):
    def test_the_object_is_as_it_was(self):
        for probe in PROBES:
            expected = run(*FULL, *probe)
            for call, refusal in REFUSED:
                found = run(*FULL, call, *probe)
                self.assertEqual(found.pop(len(FULL)), [refusal], call)
                self.assertEqual(found, expected, call)

    def test_the_probes_see_each_fact_and_ban(self):
        seen = [answer for probe in PROBES for answer in run(*FULL, *probe)[len(FULL):]]
        for kept in [[1, 1]] + [[2, k] for k in range(5)] + [[3, k] for k in range(4)]:
            self.assertIn(kept, seen)


class Asking(unittest.TestCase):
    def test_it_leaves_what_is_held_as_it_was(self):
        for probe in PROBES:
            expected = run(*FULL, *probe)
            for call in ASKED:
                found = run(*FULL, call, *probe)
                self.assertGreaterEqual(found.pop(len(FULL))[0], 0, call)
                self.assertEqual(found, expected, call)

    def test_twice_the_same(self):
        for call in ASKED:
            found = run(*FULL, call, *ASKED[:12], call)[len(FULL):]
            self.assertEqual(found[0], found[-1], call)

    def test_nothing_of_one_graph_is_kept_for_the_next(self):
        for call in ASKED:
            if call[0] != 16:
                self.assertEqual(last(*FULL, call, graph(2, 0, 1, 0, 1), call), last(call), call)

    def test_what_is_not_told_is_not_answered(self):
        self.assertEqual([len(answer) for answer in run(*FULL, size(), bound(), check(1), most(0), without(0))[-5:]],
                         [5, 5, 1, 2, 2])
        none = (graph(2, 0, 1, 1, 0), fact(0, 0))
        asked = (box(), gone(), most(0), without(0), worst(), least(), proof())
        self.assertEqual(run(*none, *asked)[2:], [[1], [1], [1], [1], [1, 1], [1, 1], [1, 0]])


class Size(unittest.TestCase):
    def test_the_beginning(self):
        self.assertEqual(run(size(), fact(1, 1), size(), unfact(0), size())[::2], [
            [0, 2, 1, 0, 0], [0, 2, 1, 1, 0], [0, 2, 1, 0, 0],
        ])

    def test_as_it_is_now(self):
        self.assertEqual(last(*FULL, size()), [0, 3, 5, 6, 4])
        self.assertEqual(last(*FULL, unfact(0), unban(0), unban(0), size()), [0, 3, 5, 5, 2])
        self.assertEqual(last(*FULL, graph(8, *[0, 7, 1, 1] * 16), size()), [0, 8, 16, 0, 0])
        self.assertEqual(last(*FULL, graph(), fact(), ban(0, 0), size()), [0, 3, 5, 6, 4])


class ManySearches(unittest.TestCase):
    def test_forty_calls_each_a_search(self):
        calls = [worst(), gone(), least(), most(0), proof()] * 8
        self.assertEqual(run(*calls), [[0, 0, 1, 1], [0, 0], [0, 0, 1], [0, 1], [0, 0, 1]] * 8)

    def test_a_line_of_searches_that_are_broken_off(self):
        asked = [worst(), gone(), least(), most(15), proof(), without(0)]
        calls = [*ENDLESS, *asked * 4, worst(), least(), proof(), size()]
        self.assertEqual(len(calls), 39)
        self.assertEqual(run(*calls)[len(ENDLESS):], [[2]] * 27 + [[0, 2, 16, 6, 4]])

    def test_a_line_of_searches_that_end(self):
        row = [2, 0, 1, 1, 1, 0, 0, 2, 9, 0, 0, 3, 9, 0, 0, 4, 1]
        calls = [graph(*row), fact(0, 0, 0, 0, -1), *[worst(), least()] * 19]
        self.assertEqual(run(*calls)[2:], [[1, 399]] * 38)


class Lists(unittest.TestCase):
    def line(self):
        calls = FULL + tuple(COUNTS) + (recost(1, 2), remost(1, 3), unfact(0), unban(0), way(0, 2))
        calls += (box(), bound(), worst(), gone(), least(), most(1), without(0), proof(), check(50, 3, 1, 1, 1, 1))
        calls += (size(), NET)
        return [number for call in calls for number in call]

    def test_it_gives_back_how_many_numbers_and_these(self):
        self.assertEqual(answers(told(1) + fits(1) + graph() + [3, 0]), [2, 0, 0, 1, 1, 1, -12, 1, -3])

    def test_what_is_handed_in_is_not_changed(self):
        line = self.line()
        self.assertEqual(answers(ReadOnly(line)), answers(line))
        self.assertEqual(line, self.line())

    def test_each_time_as_if_for_the_first_time(self):
        line = self.line()
        first = answers(line)
        self.assertEqual(answers(way(0) + unfact(0)), [2, 0, 0, 1, -3])
        self.assertEqual(answers(line), first)
        first.clear()
        self.assertEqual(len(split(answers(line))), len(FULL) + len(COUNTS) + 16)

    def test_forty_calls_with_long_lists(self):
        longest = [0] * 390
        calls = [graph(*longest), fact(*longest), way(*longest), fits(*longest), check(FAR, *longest)] * 8
        self.assertLessEqual(sum(len(call) for call in calls), 16000)
        self.assertEqual(run(*calls), [[-12], [-12], [-10], [-12], [0]] * 8)

    def test_numbers_of_calls_within_rows(self):
        self.assertEqual(run(way(7, 7, 7), fits(3), told(1), way(0)), [[-10], [0], [0, 0], [0, 0]])
        calls = (check(18, 18, 1, 1), check(1, 1), most(15), without(16), check(12), worst())
        self.assertEqual(run(*calls), [[0], [1], [-3], [-3], [0], [0, 0, 1, 1]])
