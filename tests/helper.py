"""Calls as lists of numbers, and what a line of them answers, call by call."""

from worstways.graphs import answers

FAR = 10 ** 18


def graph(*row):
    return [0, len(row), *row]


def fact(*row):
    return [1, len(row), *row]


def ban(e, f):
    return [2, e, f]


def unfact(k):
    return [3, k]


def unban(k):
    return [4, k]


def recost(e, c):
    return [5, e, c]


def remost(e, m):
    return [6, e, m]


def way(*edges):
    return [7, len(edges), *edges]


def fits(*counts):
    return [8, len(counts), *counts]


def told(*counts):
    return [9, len(counts), *counts]


def box():
    return [10]


def bound():
    return [11]


def worst():
    return [12]


def gone():
    return [13]


def least():
    return [14]


def most(e):
    return [15, e]


def without(k):
    return [16, k]


def proof():
    return [17]


def check(b, *numbers):
    return [18, b, len(numbers), *numbers]


def size():
    return [19]


def split(numbers):
    """The answers, each a list, of what `answers` gives back."""
    lists = []
    place = 0
    while place < len(numbers):
        end = place + 1 + numbers[place]
        if not place + 1 < end <= len(numbers):
            raise AssertionError(f"no row of answers: {numbers}")
        lists.append(numbers[place + 1:end])
        place = end
    return lists


def run(*calls):
    """What the calls answer on one new object; every line is handed in twice, as the interface allows."""
    if not 1 <= len(calls) <= 40:
        raise AssertionError("a line has 1 to 40 calls")
    line = [number for call in calls for number in call]
    handed = list(line)
    first = answers(handed)
    second = answers(handed)
    if handed != line:
        raise AssertionError("the list handed in was changed")
    if first != second:
        raise AssertionError("a second time answers otherwise")
    if not all(type(number) is int for number in first):
        raise AssertionError("an answer is no whole number")
    lists = split(first)
    if len(lists) != len(calls):
        raise AssertionError("not one answer for each call")
    return lists


def last(*calls):
    return run(*calls)[-1]
