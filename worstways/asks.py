"""The calls that ask what is so of all ways that are let. None of them changes what's held."""

from worstways.boxes import bound_of, is_empty, tightened, whole_box
from worstways.held import held_with, is_edge, is_place
from worstways.measures import Measures, potentials
from worstways.proofs import proves
from worstways.refusals import NO_SUCH_NUMBER
from worstways.searches import search
from worstways.ways import told_way

FOUND = 0
NONE_LET = 1
BROKEN_OFF = 2


def box(held):
    tight = tightened(Measures(held), whole_box(held))
    if is_empty(tight):
        return [1]
    answer = [0]
    for low, high in zip(tight[0], tight[1]):
        answer.extend([low, high])
    return answer


def bound(held):
    return [0, bound_of(Measures(held), whole_box(held))] + potentials(held)


def worst(held):
    outcome = search(held)
    return ended(outcome, [outcome.cost, outcome.taken] + outcome.counts, [outcome.taken])


def gone(held):
    outcome = search(held)
    return ended(outcome, told_way(held, outcome.counts), [])


def least(held):
    outcome = search(held_with(held, [-cost for cost in held.costs], held.facts))
    return ended(outcome, [-outcome.cost, outcome.taken], [outcome.taken])


def most(held, e):
    if not is_edge(held, e):
        return [NO_SUCH_NUMBER]
    costs = [1 if edge == e else 0 for edge in range(len(held.costs))]
    outcome = search(held_with(held, costs, held.facts))
    return ended(outcome, [outcome.cost], [])


def without(held, k):
    if not is_place(k, held.facts):
        return [NO_SUCH_NUMBER]
    outcome = search(held_with(held, held.costs, held.facts[:k] + held.facts[k + 1:]))
    return ended(outcome, [outcome.cost], [])


def proof(held):
    outcome = search(held)
    return ended(outcome, [outcome.cost] + outcome.proof, outcome.proof)


# What's behind the first number, if there's a way that's let, and if there's none.
def ended(outcome, if_found, if_none):
    if outcome.broken:
        return [BROKEN_OFF]
    if len(outcome.counts) == 0:
        return [NONE_LET] + if_none
    return [FOUND] + if_found


def check(held, b, numbers):
    return [1 if proves(held, b, numbers) else 0]


def size(held):
    return [0, held.nodes, len(held.costs), len(held.facts), len(held.bans)]
