"""What one object holds: a graph, facts and bans; and what may be held."""

MOST_FACTS = 6
MOST_BANS = 4
LEAST_NODES = 2
MOST_NODES = 8
MOST_EDGES = 16
EDGE_NUMBERS = 4
HIGHEST_COST = 1000
HIGHEST_MOST = 9
FARTHEST_MULTIPLE = 20
FARTHEST_BOUND = 1000


# An edge is its number alone: the four lists over edges are read at that number.
# A fact is a pair (multiples, bound), a ban a pair of edges.
class Held:
    def __init__(self):
        self.nodes = 2
        self.leaves = [0]
        self.comes = [1]
        self.costs = [0]
        self.mosts = [1]
        self.facts = []
        self.bans = []


# The same graph and bans with other costs or facts, for a search that asks what if. The lists are shared, not
# copied: a search only reads them.
def held_with(held, costs, facts):
    other = Held()
    other.nodes = held.nodes
    other.leaves = held.leaves
    other.comes = held.comes
    other.costs = costs
    other.mosts = held.mosts
    other.facts = facts
    other.bans = held.bans
    return other


def all_between(numbers, least, greatest):
    return all([least <= number <= greatest for number in numbers])


# Without this a number below 0 would count from a list's end.
def is_place(number, things):
    return 0 <= number < len(things)


def is_edge(held, edge):
    return is_place(edge, held.costs)


def is_cost(number):
    return 0 <= number <= HIGHEST_COST


def is_most(number):
    return 0 <= number <= HIGHEST_MOST


def is_graph_row(row):
    if len(row) % EDGE_NUMBERS != 1 or not 1 <= len(row) // EDGE_NUMBERS <= MOST_EDGES:
        return False
    if not LEAST_NODES <= row[0] <= MOST_NODES:
        return False
    last_node = row[0] - 1
    return (
        all_between(row[1::EDGE_NUMBERS], 0, last_node)
        and all_between(row[2::EDGE_NUMBERS], 0, last_node)
        and all([is_cost(number) for number in row[3::EDGE_NUMBERS]])
        and all([is_most(number) for number in row[4::EDGE_NUMBERS]])
    )


def is_fact_row(held, row):
    if len(row) != len(held.costs) + 1:
        return False
    if not -FARTHEST_BOUND <= row[-1] <= FARTHEST_BOUND:
        return False
    return all_between(row[:-1], -FARTHEST_MULTIPLE, FARTHEST_MULTIPLE)


# A count here may be above its edge's most: whether counts fit doesn't hang on mosts.
def is_counts_row(held, row):
    return len(row) == len(held.costs) and all_between(row, 0, HIGHEST_MOST)
