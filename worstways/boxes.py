"""Boxes, pairs (lows, highs): how one is tightened, bounded and parted. None of this changes a box itself."""

MOST_ROUNDS = 6


def whole_box(held):
    return ([0] * len(held.mosts), list(held.mosts))


def is_empty(box):
    return any([low > high for low, high in zip(box[0], box[1])])


def has_one_count_each(box):
    return box[0] == box[1]


def tightened(measures, box):
    for turn in range(MOST_ROUNDS):
        before = box
        box = after_round(measures, before)
        if box == before or is_empty(box):
            break
    return box


def after_round(measures, box):
    lows = list(box[0])
    highs = list(box[1])
    for terms, bound in measures.conditions:
        narrow_by_condition(lows, highs, terms, bound)
    for e, f in measures.bans:
        narrow_by_ban(lows, highs, e, f)
    return (lows, highs)


# The room is the bound less all least parts; the bound less the rest for an edge is the room and its own least
# part. So its high is at most its low and what the room holds, its low at least its high less that.
# An edge gets a new high or a new low, never both: each step still sees the box as it was before.
def narrow_by_condition(lows, highs, terms, bound):
    room = bound
    for edge, multiple in terms:
        room -= multiple * (lows[edge] if multiple > 0 else highs[edge])
    for edge, multiple in terms:
        if multiple > 0:
            high = lows[edge] + room // multiple
            if high < highs[edge]:
                highs[edge] = high
        else:
            low = highs[edge] - room // -multiple
            if low > lows[edge]:
                lows[edge] = low


def narrow_by_ban(lows, highs, e, f):
    if lows[e] > 0:
        highs[f] = min(highs[f], 0)
    if lows[f] > 0:
        highs[e] = min(highs[e], 0)


def bound_of(measures, box):
    together = measures.base
    for surplus, low, high in zip(measures.surpluses, box[0], box[1]):
        together += surplus * (high if surplus > 0 else low)
    return together


# The part that's taken first stands last, where boxes that wait are taken from.
def parts_of(measures, box, edge, m):
    lows = list(box[0])
    highs = list(box[1])
    lows[edge] = m + 1
    highs[edge] = m
    upper = (lows, box[1])
    lower = (box[0], highs)
    return [lower, upper] if measures.surpluses[edge] >= 0 else [upper, lower]
