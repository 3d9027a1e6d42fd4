"""Promise 8: check, of proofs that were found, of others, and of lists that are none."""

import unittest

from tests.helper import (
    FAR, ban, check, fact, graph, last, proof, recost, remost, run, unfact, worst,
)

EXAMPLE = graph(3, 0, 1, 5, 1, 1, 1, 7, 9, 1, 2, 1, 1)
FOUND = (3, 1, 4, 3, 1, 7, 3, 1, 8, 1, 1, 1, 1)
# 0 to 1 by edge 0 (up to twice) and by edge 1 (once), back by edge 2 (once). Edge 0's surplus is -2.
TWO_AND_BACK = graph(2, 0, 1, 3, 2, 0, 1, 5, 1, 1, 0, 0, 1)
LOWER_FIRST = (3, 0, 1, 3, 0, 0, 1, 3, 1, 0, 1, 1, 1)
APART = graph(4, 0, 3, 1, 1, 1, 2, 1, 1, 2, 1, 1, 1)
# Twice three edges are never 3 together, which shows in two parts.
ODD = (
    graph(2, 0, 1, 5, 1, 0, 0, 1, 1, 0, 0, 1, 1, 0, 0, 1, 1),
    fact(0, 2, 2, 2, 3),
    fact(0, -2, -2, -2, -3),
)
SHUT = (EXAMPLE, ban(0, 2))


def full_proof(mosts, edge):
    """A proof that goes through all counts of the edges from this one on, each by itself: the greater ones first."""
    if edge > len(mosts):
        return [2]
    steps = []
    for count in range(mosts[edge - 1]):
        steps += [3, edge, mosts[edge - 1] - 1 - count] + full_proof(mosts, edge + 1)
    return steps + full_proof(mosts, edge + 1)


class Case(unittest.TestCase):
    def proved(self, calls, b, numbers):
        self.assertEqual(last(*calls, check(b, *numbers)), [1], (b, numbers))

    def not_proved(self, calls, b, numbers):
        self.assertEqual(last(*calls, check(b, *numbers)), [0], (b, numbers))


class FoundProofs(Case):
    def test_with_the_worst_cost_and_with_one_less(self):
        cases = (
            (EXAMPLE,), (EXAMPLE, fact(0, 1, 0, 4)), (TWO_AND_BACK,), (TWO_AND_BACK, fact(1, 0, 1, 2)),
            (TWO_AND_BACK, recost(0, 5)), (TWO_AND_BACK, ban(0, 1), remost(2, 9), remost(0, 9)), (APART,),
            (graph(3, 0, 1, 4, 2, 1, 0, 3, 9, 1, 2, 5, 2, 2, 1, 6, 9, 2, 2, 1, 4), fact(1, 1, 1, 1, 1, 8), ban(1, 4)),
            (graph(2, 0, 1, 0, 1),),
        )
        for calls in cases:
            found = last(*calls, proof())
            self.assertEqual(found[0], 0)
            cost, steps = found[1], found[2:]
            for b in (cost, cost + 1, FAR):
                self.proved(calls, b, steps)
            for b in (cost - 1, -1, -FAR):
                self.not_proved(calls, b, steps)

    def test_with_no_way_that_is_let_whatever_the_number(self):
        for calls in (ODD, SHUT, (graph(2, 1, 1, 3, 1),), (EXAMPLE, fact(0, 0, 0, -1))):
            found = last(*calls, proof())
            self.assertEqual(found[0], 1)
            for b in (0, 5, -1, FAR, -FAR):
                self.proved(calls, b, found[1:])

    def test_too_short(self):
        for calls, b, steps in (((EXAMPLE,), 69, FOUND), ((TWO_AND_BACK,), 8, LOWER_FIRST), (ODD, 0, (3, 1, 0, 0, 0))):
            self.proved(calls, b, steps)
            for length in range(len(steps)):
                self.not_proved(calls, b, steps[:length])

    def test_too_long(self):
        for calls, b, steps in (((EXAMPLE,), 69, FOUND), ((TWO_AND_BACK,), 8, LOWER_FIRST), (ODD, 0, (3, 1, 0, 0, 0))):
            for behind in ((0,), (1,), (2,), (3,), (3, 1, 4), (1, 1), (FAR,), (-FAR,), steps):
                self.not_proved(calls, b, (*steps, *behind))

    def test_the_longest_list(self):
        self.not_proved((EXAMPLE,), 69, FOUND + (1,) * (2000 - len(FOUND)))
        self.not_proved((EXAMPLE,), FAR, (1,) * 2000)
        self.not_proved(SHUT, FAR, (0,) * 2000)
        self.not_proved((EXAMPLE,), 69, (3, 1, 4) * 666)


class OtherProofs(Case):
    def test_the_bound_of_the_whole_box(self):
        self.proved((EXAMPLE,), 69, (1,))
        self.not_proved((EXAMPLE,), 68, (1,))
        # Here it's the tightened box whose bound is 34; not tightened it's 69.
        self.proved((EXAMPLE, fact(0, 1, 0, 4)), 34, (1,))
        self.not_proved((EXAMPLE, fact(0, 1, 0, 4)), 33, (1,))

    def test_parted_at_other_places(self):
        # Edge 1 at 8: with 9 of them it's 69, else 62 at most.
        self.proved((EXAMPLE,), 69, (3, 1, 8, 1, 1))
        self.proved((EXAMPLE,), 69, (3, 1, 0, 1, 1))
        self.not_proved((EXAMPLE,), 68, (3, 1, 8, 1, 1))
        # Edge 2 first, then edge 1: 1 1 1, 2 0 1, and without edge 2 one of edges 0 and 1.
        self.proved((TWO_AND_BACK,), 8, (3, 2, 0, 3, 1, 0, 1, 1, 3, 1, 0, 1, 1))
        self.proved((TWO_AND_BACK,), 8, (3, 2, 0, 3, 1, 0, 1, 1, 1))
        self.not_proved((TWO_AND_BACK,), 7, (3, 2, 0, 3, 1, 0, 1, 1, 1))

    def test_the_lesser_counts_first_if_the_surplus_is_below_0(self):
        self.proved((TWO_AND_BACK,), 8, LOWER_FIRST)
        self.not_proved((TWO_AND_BACK,), 8, (3, 0, 1, 1, 3, 0, 0, 3, 1, 0, 1, 1, 1))
        # With the same cost for both edges the surplus is 0, and the greater counts come first.
        self.proved((TWO_AND_BACK, recost(0, 5)), 10, (3, 0, 1, 1, 3, 0, 0, 3, 1, 0, 1, 1, 1))
        self.not_proved((TWO_AND_BACK, recost(0, 5)), 10, LOWER_FIRST)

    def test_it_is_not_broken_off(self):
        for mosts, many in (((9, 4, 4), 250), ((9, 9, 4), 500)):
            row = [2, 0, 1, 1, 1] + [number for top in mosts for number in (0, 0, 1, top)]
            steps = full_proof(mosts, 1)
            self.assertEqual(len(steps), many + 3 * (many - 1))
            calls = (graph(*row), fact(0, 0, 0, 0, -1))
            asked = (worst(), check(-FAR, *steps), check(-FAR, *steps[:-1]), check(-FAR, *steps[:-1], 1))
            self.assertEqual(run(*calls, *asked)[2:], [[2], [1], [0], [0]])


class EachNumber(Case):
    def test_0_is_for_an_empty_box_alone(self):
        self.proved(SHUT, 0, (0,))
        self.not_proved((EXAMPLE,), FAR, (0,))
        self.not_proved((graph(2, 0, 1, 5, 1), fact(0, -1)), FAR, (0,))
        self.not_proved(ODD, FAR, (0,))
        self.not_proved(ODD, FAR, (3, 1, 0, 0, 3, 2, 0, 0, 0))

    def test_1_is_for_an_empty_box_too(self):
        for b in (0, -1, -FAR, FAR):
            self.proved(SHUT, b, (1,))
            self.proved(ODD, b, (3, 1, 0, 1, 0))
            self.proved(ODD, b, (3, 1, 0, 0, 1))
        self.proved(ODD, 8, (1,))
        self.not_proved(ODD, 7, (1,))

    def test_2_is_for_one_count_each_that_no_way_that_is_let_has(self):
        only = graph(2, 0, 1, 5, 1)
        self.proved((only, fact(0, -1)), -FAR, (2,))
        self.not_proved((only,), FAR, (2,))
        self.not_proved((only, fact(0, -1), unfact(0)), FAR, (2,))
        self.not_proved(SHUT, FAR, (2,))
        self.not_proved((EXAMPLE,), FAR, (2,))
        self.not_proved((EXAMPLE, fact(0, 0, 0, -1)), FAR, (2,))
        # A circle that can't be come to; the way without it costs 1.
        self.proved((APART,), 1, (3, 1, 0, 2, 1))
        self.not_proved((APART,), 1, (3, 1, 0, 1, 1))
        self.not_proved((APART,), 0, (3, 1, 0, 2, 1))
        self.not_proved((APART,), FAR, (3, 1, 0, 2, 2))
        self.not_proved((APART,), FAR, (3, 1, 0, 0, 1))

    def test_3_with_what_is_no_edge(self):
        for edge in (-1, -2, -3, 3, 4, 16, FAR, -FAR):
            self.not_proved((EXAMPLE,), FAR, (3, edge, 0, 1, 1))
            self.not_proved((EXAMPLE,), FAR, (3, edge, 4, 1, 1))
            self.not_proved((EXAMPLE,), FAR, (3, 1, 4, 3, edge, 7, 1, 1, 1))

    def test_3_with_an_m_that_is_not_between(self):
        for m in range(9):
            self.proved((EXAMPLE,), 69, (3, 1, m, 1, 1))
        for m in (-1, -FAR, 9, 10, FAR):
            self.not_proved((EXAMPLE,), FAR, (3, 1, m, 1, 1))
        # The higher part is from 5 to 9.
        for m in (5, 6, 7, 8):
            self.proved((EXAMPLE,), 69, (3, 1, 4, 3, 1, m, 1, 1, 1))
        for m in (-1, 0, 3, 4, 9, 10):
            self.not_proved((EXAMPLE,), FAR, (3, 1, 4, 3, 1, m, 1, 1, 1))
        # The lower part is from 0 to 4.
        for m in (0, 1, 2, 3):
            self.proved((EXAMPLE,), 69, (3, 1, 4, 1, 3, 1, m, 1, 1))
        for m in (-1, 4, 5):
            self.not_proved((EXAMPLE,), FAR, (3, 1, 4, 1, 3, 1, m, 1, 1))

    def test_3_is_by_the_tightened_box(self):
        # Edges 0 and 2 have one count then.
        for edge in (0, 2):
            for m in (0, 1):
                self.not_proved((EXAMPLE,), FAR, (3, edge, m, 1, 1))
        self.proved((EXAMPLE, fact(0, 1, 0, 4)), 34, (3, 1, 3, 1, 1))
        self.not_proved((EXAMPLE, fact(0, 1, 0, 4)), FAR, (3, 1, 4, 1, 1))
        self.proved((EXAMPLE, fact(0, -1, 0, -4)), 69, (3, 1, 4, 1, 1))
        self.not_proved((EXAMPLE, fact(0, -1, 0, -4)), FAR, (3, 1, 3, 1, 1))

    def test_3_is_not_for_an_empty_box(self):
        # Edge 1 is from 0 to 9 in it still.
        self.not_proved((EXAMPLE, ban(0, 2)), FAR, (3, 1, 4, 1, 1))
        self.not_proved((EXAMPLE, ban(0, 2)), FAR, (3, 1, 4, 0, 0))

    def test_3_without_its_numbers(self):
        for steps in ((3,), (3, 1), (3, 1, 4), (3, 1, 4, 3), (3, 1, 4, 3, 1), (3, 1, 4, 1, 3), (3, 1, 4, 1, 3, 1)):
            self.not_proved((EXAMPLE,), FAR, steps)

    def test_other_numbers(self):
        for number in (-1, -2, -3, 4, 5, 10, FAR, -FAR):
            for calls in ((EXAMPLE,), SHUT, (graph(2, 0, 1, 5, 1), fact(0, -1))):
                self.not_proved(calls, FAR, (number,))
            self.not_proved((EXAMPLE,), FAR, (3, 1, 4, number, 1))
            self.not_proved((EXAMPLE,), FAR, (3, 1, 4, 1, number))

    def test_the_empty_list(self):
        for calls in ((EXAMPLE,), SHUT, ODD, (graph(2, 0, 1, 0, 1),)):
            self.not_proved(calls, FAR, ())


class AllAnew(Case):
    def test_by_what_is_held_now(self):
        calls = (EXAMPLE, proof(), check(69, *FOUND), fact(0, 1, 0, 4), check(69, *FOUND), check(34, 1))
        calls += (unfact(0), check(69, *FOUND), check(34, 1), recost(1, 8), check(69, *FOUND), check(78, *FOUND))
        found = run(*calls)
        self.assertEqual([found[place] for place in (2, 4, 5, 7, 8, 10, 11)], [[1], [0], [1], [1], [0], [0], [1]])

    def test_whether_or_not_it_was_searched_before(self):
        expected = run(EXAMPLE, check(69, *FOUND), check(68, *FOUND), check(69, 1), check(68, 1))[1:]
        self.assertEqual(expected, [[1], [0], [1], [0]])
        calls = (EXAMPLE, worst(), check(69, *FOUND), proof(), check(68, *FOUND), worst(), check(69, 1), proof())
        calls += (check(68, 1),)
        self.assertEqual(run(*calls)[2::2], expected)

    def test_the_beginning(self):
        calls = (check(0, 1), check(-1, 1), check(0), check(0, 0), check(0, 2), check(FAR, 3, 0, 0), check(0, 1, 1))
        self.assertEqual(run(*calls), [[1], [0], [0], [0], [0], [0], [0]])
