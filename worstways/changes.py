"""The calls that change what's held. Each looks for all refusals before it changes anything."""

from worstways.held import EDGE_NUMBERS, MOST_BANS, MOST_FACTS
from worstways.held import is_cost, is_edge, is_fact_row, is_graph_row, is_most, is_place
from worstways.refusals import NO_ROOM, NO_SUCH_NUMBER, OUT_OF_RANGE, WRONG_ROW


def graph(held, row):
    if not is_graph_row(row):
        return [WRONG_ROW]
    held.nodes = row[0]
    held.leaves = row[1::EDGE_NUMBERS]
    held.comes = row[2::EDGE_NUMBERS]
    held.costs = row[3::EDGE_NUMBERS]
    held.mosts = row[4::EDGE_NUMBERS]
    held.facts = []
    held.bans = []
    return [0, held.nodes, len(held.costs)]


def fact(held, row):
    if not is_fact_row(held, row):
        return [WRONG_ROW]
    if len(held.facts) == MOST_FACTS:
        return [NO_ROOM]
    held.facts.append((row[:-1], row[-1]))
    return [0, len(held.facts)]


def ban(held, e, f):
    if not is_edge(held, e) or not is_edge(held, f) or e == f:
        return [NO_SUCH_NUMBER]
    if len(held.bans) == MOST_BANS:
        return [NO_ROOM]
    held.bans.append((e, f))
    return [0, len(held.bans)]


def unfact(held, k):
    return take_out(held.facts, k)


def unban(held, k):
    return take_out(held.bans, k)


def take_out(things, k):
    if not is_place(k, things):
        return [NO_SUCH_NUMBER]
    things.pop(k)
    return [0, len(things)]


def recost(held, e, c):
    if not is_edge(held, e):
        return [NO_SUCH_NUMBER]
    if not is_cost(c):
        return [OUT_OF_RANGE]
    held.costs[e] = c
    return [0]


def remost(held, e, m):
    if not is_edge(held, e):
        return [NO_SUCH_NUMBER]
    if not is_most(m):
        return [OUT_OF_RANGE]
    held.mosts[e] = m
    return [0]
