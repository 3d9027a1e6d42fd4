"""The search for the worst counts, which writes its proof as it goes."""

from worstways.boxes import bound_of, has_one_count_each, is_empty, parts_of, tightened, whole_box
from worstways.measures import Measures
from worstways.ways import fit_and_let, product_sum

MOST_TAKEN = 400

# What became of a box that was taken, as a proof tells it.
EMPTY = 0
BOUNDED = 1
NO_WAY_THERE = 2
PARTED = 3


# The counts are those found last, an empty list before any are found; they are worst only if it isn't broken off.
class Outcome:
    def __init__(self):
        self.counts = []
        self.cost = 0
        self.taken = 0
        self.proof = []
        self.broken = False


def search(held):
    measures = Measures(held)
    outcome = Outcome()
    waiting = [whole_box(held)]
    while len(waiting) > 0 and outcome.taken < MOST_TAKEN:
        box = tightened(measures, waiting.pop())
        outcome.taken += 1
        step = step_of(held, measures, outcome, box)
        outcome.proof.extend(step)
        if step[0] == PARTED:
            waiting.extend(parts_of(measures, box, step[1], step[2]))
    outcome.broken = len(waiting) > 0
    return outcome


def step_of(held, measures, outcome, box):
    if is_empty(box):
        return [EMPTY]
    if len(outcome.counts) > 0 and bound_of(measures, box) <= outcome.cost:
        return [BOUNDED]
    if has_one_count_each(box):
        return [settled(held, outcome, box[0])]
    edge = widest_edge(box)
    return [PARTED, edge, (box[0][edge] + box[1][edge]) // 2]


def settled(held, outcome, counts):
    if not fit_and_let(held, counts):
        return NO_WAY_THERE
    outcome.counts = counts
    outcome.cost = product_sum(held.costs, counts)
    return BOUNDED


def widest_edge(box):
    widths = [high - low for low, high in zip(box[0], box[1])]
    return widths.index(max(widths))
