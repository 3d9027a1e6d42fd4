"""What is worked out of what's held before boxes are taken: conditions, potentials, surpluses."""


# The base is the entry's potential: a way's cost is the base and its edges' surpluses together.
class Measures:
    def __init__(self, held):
        heights = potentials(held)
        self.conditions = conditions(held)
        self.bans = held.bans
        self.base = heights[0]
        self.surpluses = surpluses(held, heights)


# A condition is a pair (terms, bound). Its terms are the pairs (edge, multiple) without the multiples 0,
# since these neither narrow an edge nor have a part that isn't 0.
def conditions(held):
    rows = [(terms_of(multiples), bound) for multiples, bound in held.facts]
    for node in range(held.nodes):
        multiples = node_multiples(held, node)
        bound = node_bound(held, node)
        rows.append((terms_of(multiples), bound))
        rows.append((terms_of([-multiple for multiple in multiples]), -bound))
    return rows


def terms_of(multiples):
    return [(edge, multiple) for edge, multiple in enumerate(multiples) if multiple != 0]


# An edge from the node to itself gets 1 - 1, so 0.
def node_multiples(held, node):
    coming = [1 if other == node else 0 for other in held.comes]
    leaving = [1 if other == node else 0 for other in held.leaves]
    return [come - leave for come, leave in zip(coming, leaving)]


def node_bound(held, node):
    if node == 0:
        return -1
    return 1 if node == held.nodes - 1 else 0


# From the last node down, so that a node with a greater number has its potential before it is asked for.
def potentials(held):
    heights = [0] * held.nodes
    for node in range(held.nodes - 1, -1, -1):
        edges = upward_edges(held, node)
        heights[node] = max([held.costs[edge] + heights[held.comes[edge]] for edge in edges], default=0)
    return heights


def upward_edges(held, node):
    leaving = [edge for edge, other in enumerate(held.leaves) if other == node]
    return [edge for edge in leaving if held.comes[edge] > node and held.mosts[edge] > 0]


def surpluses(held, heights):
    return [
        cost - heights[leave] + heights[come]
        for cost, leave, come in zip(held.costs, held.leaves, held.comes)
    ]
