"""Promises 8 to 10 once more: the document's words, read a second time and as literally as can be, beside the program.

Nothing here is quick or short; whole numbers are found by going through them, not by dividing.
"""

import itertools
import unittest

from tests.helper import (
    ban, bound, box, check, fact, gone, graph, least, most, proof, run, told, way, without, worst,
)


def conditions(row, facts):
    nodes, leaves, comes = row[0], row[1::4], row[2::4]
    found = [(list(known[:-1]), known[-1]) for known in facts]
    for node in range(nodes):
        multiples = []
        for leave, come in zip(leaves, comes):
            if come == node and leave != node:
                multiples.append(1)
            elif leave == node and come != node:
                multiples.append(-1)
            else:
                multiples.append(0)
        limit = {0: -1, nodes - 1: 1}.get(node, 0)
        found.append((multiples, limit))
        found.append(([-multiple for multiple in multiples], -limit))
    return found


def narrowed(old, multiples, limit):
    parts = [a * (low if a > 0 else high) for a, (low, high) in zip(multiples, old)]
    new = []
    for edge, (a, (low, high)) in enumerate(zip(multiples, old)):
        rest = sum(parts[:edge] + parts[edge + 1:])
        held_by = [number for number in range(low, high + 1) if a == 0 or a * number <= limit - rest]
        new.append((min(held_by, default=high + 1), max(held_by, default=low - 1)))
    return new


def is_empty(ranges):
    return any(low > high for low, high in ranges)


def tightened(ranges, rows, bans):
    for time in range(6):
        before = list(ranges)
        for multiples, limit in rows:
            ranges = narrowed(ranges, multiples, limit)
            if is_empty(ranges):
                return ranges
        for e, f in bans:
            if ranges[e][0] > 0 and ranges[f][1] > 0:
                ranges[f] = (ranges[f][0], 0)
            if ranges[f][0] > 0 and ranges[e][1] > 0:
                ranges[e] = (ranges[e][0], 0)
        if is_empty(ranges) or ranges == before:
            return ranges
    return ranges


def potential(row, costs, node):
    through = [
        costs[edge] + potential(row, costs, row[2::4][edge])
        for edge in range(len(costs))
        if row[1::4][edge] == node and row[2::4][edge] > node and row[4::4][edge] > 0
    ]
    return max(through) if through else 0


def surplus(row, costs, edge):
    return costs[edge] - potential(row, costs, row[1::4][edge]) + potential(row, costs, row[2::4][edge])


def limit_of(row, costs, ranges):
    together = potential(row, costs, 0)
    for edge, (low, high) in enumerate(ranges):
        over = surplus(row, costs, edge)
        together += over * high if over > 0 else over * low
    return together


def do_fit(row, counts):
    nodes, leaves, comes = row[0], row[1::4], row[2::4]
    for node in range(nodes):
        coming = sum(count for count, come in zip(counts, comes) if come == node) + (node == 0)
        leaving = sum(count for count, leave in zip(counts, leaves) if leave == node) + (node == nodes - 1)
        if coming != leaving:
            return False
    reached = {0}
    for time in range(nodes):
        reached |= {come for count, leave, come in zip(counts, leaves, comes) if count and leave in reached}
    return all(leave in reached for count, leave in zip(counts, leaves) if count)


def are_let(row, facts, bans, counts):
    return (
        all(count <= top for count, top in zip(counts, row[4::4]))
        and all(sum(a * count for a, count in zip(known, counts)) <= known[-1] for known in facts)
        and all(counts[e] == 0 or counts[f] == 0 for e, f in bans)
    )


def parted(row, costs, ranges, edge, m):
    """The two parts, the one that's taken first at the beginning."""
    low, high = ranges[edge]
    upper = ranges[:edge] + [(m + 1, high)] + ranges[edge + 1:]
    lower = ranges[:edge] + [(low, m)] + ranges[edge + 1:]
    return [upper, lower] if not surplus(row, costs, edge) < 0 else [lower, upper]


def searched(row, costs, facts, bans):
    """Whether it's broken off, the counts found last or None, how many boxes were taken, and the proof."""
    rows = conditions(row, facts)
    waiting = [[(0, top) for top in row[4::4]]]
    counts, taken, steps = None, 0, []
    while waiting:
        if taken == 400:
            return True, counts, taken, steps
        ranges = tightened(waiting.pop(0), rows, bans)
        taken += 1
        widths = [high - low for low, high in ranges]
        if is_empty(ranges):
            steps += [0]
        elif counts is not None and not limit_of(row, costs, ranges) > sum(c * n for c, n in zip(costs, counts)):
            steps += [1]
        elif set(widths) == {0}:
            single = [low for low, high in ranges]
            if do_fit(row, single) and are_let(row, facts, bans, single):
                counts = single
                steps += [1]
            else:
                steps += [2]
        else:
            edge = min(edge for edge in range(len(widths)) if widths[edge] == max(widths))
            m = max(number for number in range(10) if 2 * number <= sum(ranges[edge]))
            steps += [3, edge, m]
            waiting = parted(row, costs, ranges, edge, m) + waiting
    return False, counts, taken, steps


def expected(row, facts, bans):
    """What bound, box, worst, gone (its counts), least, proof, each most and each without are to answer."""
    costs, edges = list(row[3::4]), range(len(row) // 4)
    whole = [(0, top) for top in row[4::4]]
    tight = tightened(whole, conditions(row, facts), bans)
    answers = [[0, limit_of(row, costs, whole)] + [potential(row, costs, node) for node in range(row[0])]]
    answers.append([1] if is_empty(tight) else [0] + [number for pair in tight for number in pair])
    broken, counts, taken, steps = searched(row, costs, facts, bans)
    cost = None if counts is None else sum(c * n for c, n in zip(costs, counts))
    answers.append([2] if broken else [1, taken] if counts is None else [0, cost, taken] + counts)
    answers.append([2] if broken else [1] + steps if counts is None else [0, cost] + steps)
    turned = [-c for c in costs]
    broken, counts, taken, steps = searched(row, turned, facts, bans)
    cost = None if counts is None else sum(c * n for c, n in zip(costs, counts))
    answers.append([2] if broken else [1, taken] if counts is None else [0, cost, taken])
    for e in edges:
        broken, counts, taken, steps = searched(row, [int(edge == e) for edge in edges], facts, bans)
        answers.append([2] if broken else [1] if counts is None else [0, counts[e]])
    for k in range(len(facts)):
        broken, counts, taken, steps = searched(row, costs, facts[:k] + facts[k + 1:], bans)
        cost = None if counts is None else sum(c * n for c, n in zip(costs, counts))
        answers.append([2] if broken else [1] if counts is None else [0, cost])
    return answers


def proves(row, facts, bans, b, numbers):
    costs, rows = list(row[3::4]), conditions(row, facts)
    waiting = [[(0, top) for top in row[4::4]]]
    numbers = list(numbers)
    while waiting and numbers:
        ranges = tightened(waiting.pop(0), rows, bans)
        single = [low for low, high in ranges]
        number = numbers.pop(0)
        if number == 0 and is_empty(ranges):
            continue
        if number == 1 and (is_empty(ranges) or limit_of(row, costs, ranges) <= b):
            continue
        if number == 2 and all(low == high for low, high in ranges):
            if not (do_fit(row, single) and are_let(row, facts, bans, single)):
                continue
        if number == 3 and len(numbers) > 1 and numbers[0] in range(len(costs)) and not is_empty(ranges):
            edge, m = numbers[:2]
            numbers = numbers[2:]
            if ranges[edge][0] <= m < ranges[edge][1]:
                waiting = parted(row, costs, ranges, edge, m) + waiting
                continue
        return False
    return not waiting and not numbers


class Numbers:
    """Numbers that look like chance but are the same on every machine."""

    def __init__(self, seed):
        self.state = seed

    def below(self, limit):
        self.state = (self.state * 6364136223846793005 + 1442695040888963407) % 2 ** 64
        return (self.state >> 33) % limit

    def between(self, least_one, greatest):
        return least_one + self.below(greatest - least_one + 1)


def some_graph(numbers, nodes, highest):
    """A row with nodes in a chain and up to 3 edges more, so that there often is a way."""
    row = [nodes]
    for node in range(nodes - 1):
        row += [node, node + 1, numbers.below(8), numbers.between(1, highest)]
    for edge in range(numbers.below(4)):
        row += [numbers.below(nodes), numbers.below(nodes), numbers.below(12), numbers.between(0, highest)]
    return row


def some_facts(numbers, edges):
    reach = (1, 3, 20)[numbers.below(3)]
    return [
        [numbers.between(-reach, reach) for edge in range(edges)] + [numbers.between(-2, 3 * reach)]
        for k in range((0, 1, 2, 3, 6)[numbers.below(5)])
    ]


def some_bans(numbers, edges):
    pairs = [(numbers.below(edges), numbers.below(edges)) for k in range((0, 1, 4)[numbers.below(3)])]
    return [pair for pair in pairs if pair[0] != pair[1]]


def told_lists(numbers, steps):
    """A proof, and lists that are nearly this proof."""
    lists = [list(steps)]
    for time in range(12):
        nearly = list(steps)
        place = numbers.below(len(nearly))
        nearly[place:place + numbers.below(2)] = [numbers.between(-1, 5) for number in range(numbers.below(3))]
        lists.append(nearly)
    return lists


class SecondReading(unittest.TestCase):
    def lines(self, seed, times):
        numbers = Numbers(seed)
        for time in range(times):
            row = some_graph(numbers, (2, 3, 4, 4, 8)[numbers.below(5)], (1, 3, 9)[numbers.below(3)])
            facts = some_facts(numbers, len(row) // 4)
            bans = some_bans(numbers, len(row) // 4)
            told_first = [graph(*row)] + [fact(*known) for known in facts] + [ban(*pair) for pair in bans]
            yield numbers, row, facts, bans, told_first

    def test_every_asking_call(self):
        firsts = []
        for numbers, row, facts, bans, told_first in self.lines(1, 300):
            asked = [bound(), box(), worst(), proof(), least()]
            asked += [most(e) for e in range(len(row) // 4)] + [without(k) for k in range(len(facts))]
            found = run(*told_first, *asked)[len(told_first):]
            self.assertEqual(found, expected(row, facts, bans), (row, facts, bans))
            firsts.append(found[2][0])
        self.assertGreater(firsts.count(0), 60)
        self.assertGreater(firsts.count(1), 60)

    def test_a_search_that_is_broken_off(self):
        row = (2, 0, 1, 8, 1, 0, 0, 5, 8, 1, 1, 5, 7, 0, 0, 9, 1, 0, 0, 8, 4, 0, 0, 8, 9)
        facts = [[0, 2, 2, 4, 4, 4, 22]]
        asked = [bound(), box(), worst(), proof(), least(), *[most(e) for e in range(6)], without(0)]
        found = run(graph(*row), fact(*facts[0]), *asked)[2:]
        self.assertEqual(found, expected(row, facts, []))
        self.assertEqual(found[2:4], [[2], [2]])

    def test_check(self):
        proved = []
        for numbers, row, facts, bans, told_first in self.lines(2, 120):
            found = run(*told_first, proof())[-1]
            b = found[1] if found[0] == 0 else 0
            for numbers_told in told_lists(numbers, found[2 - found[0]:]):
                right = proves(row, facts, bans, b, numbers_told)
                answers = run(*told_first, check(b, *numbers_told), check(b - 1, *numbers_told))[-2:]
                self.assertEqual(answers[0], [int(right)], (row, facts, bans, b, numbers_told))
                self.assertEqual(answers[1], [int(right and found[0] == 1)], (row, facts, bans, b, numbers_told))
                proved.append(right)
        self.assertGreater(proved.count(True), 120)
        self.assertGreater(proved.count(False), 500)


class EveryCounts(unittest.TestCase):
    """What is the greatest and the least is so among all counts there are, gone through one by one."""

    def test_small_graphs(self):
        numbers = Numbers(3)
        firsts = []
        for time in range(200):
            row = some_graph(numbers, numbers.between(2, 3), 3)
            facts = some_facts(numbers, len(row) // 4)
            bans = some_bans(numbers, len(row) // 4)
            every = itertools.product(*[range(top + 1) for top in row[4::4]])
            firsts.append(self.compare(row, facts, bans, [counts for counts in every if do_fit(row, counts)]))
        self.assertGreater(firsts.count(0), 60)
        self.assertGreater(firsts.count(1), 60)

    def compare(self, row, facts, bans, fitting):
        def costs(kept):
            let = [counts for counts in fitting if are_let(row, kept, bans, counts)]
            return [sum(c * n for c, n in zip(row[3::4], counts)) for counts in let]

        edges = range(len(row) // 4)
        let = [counts for counts in fitting if are_let(row, facts, bans, counts)]
        told_first = [graph(*row)] + [fact(*known) for known in facts] + [ban(*pair) for pair in bans]
        asked = [worst(), gone(), least()] + [most(e) for e in edges] + [without(k) for k in range(len(facts))]
        found = run(*told_first, *asked)[len(told_first):]
        if let:
            self.assertEqual(found[0][:2], [0, max(costs(facts))])
            self.assertIn(tuple(found[0][3:]), let)
            self.assertEqual(run(*told_first, told(*found[0][3:]), way(*found[1][1:]))[-2:], [found[1], found[0][:2]])
            self.assertEqual(found[2][:2], [0, min(costs(facts))])
        else:
            self.assertEqual([answer[0] for answer in found[:3]], [1, 1, 1])
        for e in edges:
            self.assertEqual(found[3 + e], [0, max(counts[e] for counts in let)] if let else [1])
        for k in range(len(facts)):
            dear = costs(facts[:k] + facts[k + 1:])
            self.assertEqual(found[3 + len(edges) + k], [0, max(dear)] if dear else [1])
        return found[0][0]
