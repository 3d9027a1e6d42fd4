"""The calls on one object, read from one list of whole numbers, and their answers as one such list."""

from worstways.asks import bound, box, check, gone, least, most, proof, size, without, worst
from worstways.changes import ban, fact, graph, recost, remost, unban, unfact
from worstways.held import Held
from worstways.ways import fits, told, way

GRAPH = 0
FACT = 1
BAN = 2
UNFACT = 3
UNBAN = 4
RECOST = 5
REMOST = 6
WAY = 7
FITS = 8
TOLD = 9
BOX = 10
BOUND = 11
WORST = 12
GONE = 13
LEAST = 14
MOST = 15
WITHOUT = 16
PROOF = 17
CHECK = 18
SIZE = 19

# By a call's number: how many whole numbers stand behind it; and the calls that have a row behind these.
NUMBERS = (0, 0, 2, 1, 1, 2, 2, 0, 0, 0, 0, 0, 0, 0, 0, 1, 1, 0, 1, 0)
WITH_ROW = (0, 1, 7, 8, 9, 18)


def answers(calls):
    held = Held()
    given = []
    place = 0
    while place < len(calls):
        call = calls[place]
        row_place = place + 1 + NUMBERS[call]
        end = row_place + (1 + calls[row_place] if call in WITH_ROW else 0)
        answer = answer_of(held, call, calls[place + 1:row_place], calls[row_place + 1:end])
        given.append(len(answer))
        given.extend(answer)
        place = end
    return given


def answer_of(held, call, numbers, row):
    if call == CHECK:
        return check(held, numbers[0], row)
    if call in WITH_ROW:
        return row_answer(held, call, row)
    if NUMBERS[call] == 2:
        return pair_answer(held, call, numbers[0], numbers[1])
    if NUMBERS[call] == 1:
        return number_answer(held, call, numbers[0])
    return bare_answer(held, call)


def row_answer(held, call, row):
    if call == GRAPH:
        return graph(held, row)
    if call == FACT:
        return fact(held, row)
    if call == WAY:
        return way(held, row)
    if call == FITS:
        return fits(held, row)
    return told(held, row)


def pair_answer(held, call, first, second):
    if call == BAN:
        return ban(held, first, second)
    if call == RECOST:
        return recost(held, first, second)
    return remost(held, first, second)


def number_answer(held, call, number):
    if call == UNFACT:
        return unfact(held, number)
    if call == UNBAN:
        return unban(held, number)
    if call == MOST:
        return most(held, number)
    return without(held, number)


def bare_answer(held, call):
    if call == BOX:
        return box(held)
    if call == BOUND:
        return bound(held)
    if call == WORST:
        return worst(held)
    if call == GONE:
        return gone(held)
    if call == LEAST:
        return least(held)
    if call == PROOF:
        return proof(held)
    return size(held)
