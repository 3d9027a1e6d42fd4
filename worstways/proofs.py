"""Whether a list of numbers proves that no way that's let costs more than a number."""

from worstways.boxes import bound_of, has_one_count_each, is_empty, parts_of, tightened, whole_box
from worstways.held import is_edge
from worstways.measures import Measures
from worstways.searches import BOUNDED, EMPTY, NO_WAY_THERE, PARTED
from worstways.ways import fit_and_let

PARTED_NUMBERS = 3


def proves(held, b, proof):
    measures = Measures(held)
    waiting = [whole_box(held)]
    place = 0
    while len(waiting) > 0 and place < len(proof):
        box = tightened(measures, waiting.pop())
        if proof[place] == PARTED:
            step = proof[place:place + PARTED_NUMBERS]
            if not may_be_parted(held, box, step):
                return False
            waiting.extend(parts_of(measures, box, step[1], step[2]))
            place += PARTED_NUMBERS
        elif may_be_left(held, measures, box, proof[place], b):
            place += 1
        else:
            return False
    return len(waiting) == 0 and place == len(proof)


def may_be_parted(held, box, step):
    if len(step) < PARTED_NUMBERS or not is_edge(held, step[1]) or is_empty(box):
        return False
    return box[0][step[1]] <= step[2] < box[1][step[1]]


def may_be_left(held, measures, box, number, b):
    if number == EMPTY:
        return is_empty(box)
    if number == BOUNDED:
        return is_empty(box) or bound_of(measures, box) <= b
    if number == NO_WAY_THERE:
        return has_one_count_each(box) and not fit_and_let(held, box[0])
    return False
