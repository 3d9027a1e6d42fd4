"""Ways and counts: whether a way is let, whether counts fit, and their told way."""

from worstways.held import is_counts_row, is_edge
from worstways.refusals import NO_WAY, WRONG_ROW


def way(held, edges):
    if not is_way(held, edges):
        return [NO_WAY]
    counts = counts_of(held, edges)
    above = edges_above_most(held, counts)
    if len(above) > 0:
        return [1, above[0]]
    facts = facts_not_kept(held, counts)
    if len(facts) > 0:
        return [2, facts[0]]
    bans = bans_not_kept(held, counts)
    if len(bans) > 0:
        return [3, bans[0]]
    return [0, product_sum(held.costs, counts)]


def fits(held, counts):
    if not is_counts_row(held, counts):
        return [WRONG_ROW]
    return [1 if counts_fit(held, 0, counts) else 0]


def told(held, counts):
    if not is_counts_row(held, counts):
        return [WRONG_ROW]
    if not counts_fit(held, 0, counts):
        return [1]
    return [0] + told_way(held, counts)


# No edge at all is no way either: the entry is never the exit.
def is_way(held, edges):
    node = 0
    for edge in edges:
        if not is_edge(held, edge) or held.leaves[edge] != node:
            return False
        node = held.comes[edge]
    return node == held.nodes - 1


def counts_of(held, edges):
    counts = [0] * len(held.costs)
    for edge in edges:
        counts[edge] += 1
    return counts


def product_sum(multiples, counts):
    return sum([multiple * count for multiple, count in zip(multiples, counts)])


def edges_above_most(held, counts):
    return [edge for edge, count in enumerate(counts) if count > held.mosts[edge]]


def facts_not_kept(held, counts):
    return [k for k, fact in enumerate(held.facts) if product_sum(fact[0], counts) > fact[1]]


def bans_not_kept(held, counts):
    return [k for k, ban in enumerate(held.bans) if counts[ban[0]] > 0 and counts[ban[1]] > 0]


def is_let(held, counts):
    if len(edges_above_most(held, counts)) > 0 or len(facts_not_kept(held, counts)) > 0:
        return False
    return len(bans_not_kept(held, counts)) == 0


def fit_and_let(held, counts):
    return counts_fit(held, 0, counts) and is_let(held, counts)


# The start is the entry for counts of a whole way; for what's left of a way, the node come to so far.
def counts_fit(held, start, counts):
    return is_balanced(held, start, counts) and all_reached(held, start, counts)


def is_balanced(held, start, counts):
    surplus = [0] * held.nodes
    surplus[start] += 1
    surplus[held.nodes - 1] -= 1
    for edge, count in enumerate(counts):
        surplus[held.comes[edge]] += count
        surplus[held.leaves[edge]] -= count
    return not any(surplus)


def all_reached(held, start, counts):
    reached = reached_nodes(held, start, counts)
    return all([reached[held.leaves[edge]] for edge, count in enumerate(counts) if count > 0])


def reached_nodes(held, start, counts):
    reached = [False] * held.nodes
    reached[start] = True
    waiting = [start]
    while len(waiting) > 0:
        node = waiting.pop()
        for edge, count in enumerate(counts):
            other = held.comes[edge]
            if count > 0 and held.leaves[edge] == node and not reached[other]:
                reached[other] = True
                waiting.append(other)
    return reached


def told_way(held, counts):
    left = list(counts)
    edges = []
    node = 0
    while sum(left) > 0:
        edge = first_edge(held, node, left)
        left[edge] -= 1
        edges.append(edge)
        node = held.comes[edge]
    return edges


# There always is one, since the counts that are left fit from this node on.
def first_edge(held, node, left):
    return [edge for edge in range(len(left)) if may_stand(held, node, left, edge)][0]


def may_stand(held, node, left, edge):
    if held.leaves[edge] != node or left[edge] == 0:
        return False
    rest = list(left)
    rest[edge] -= 1
    return counts_fit(held, held.comes[edge], rest)
