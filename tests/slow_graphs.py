"""What [42] to [44] say of marked graphs, by all rows of counters and by searches."""

import itertools

from numberwall.graphs import Barred, Led
from slow_settling import slow_next


def slow_wrong(program):
    """Why a program is no marked graph, None if it is one."""
    if program.locations != 1:
        return "locations"
    for i in range(program.counters):
        if sorted(step[1][i] for step in program.steps if step[1][i]) != [1]:
            return ("counter", i)
        if sorted(step[2][i] for step in program.steps if step[2][i]) != [1]:
            return ("counter", i)
    return None


def all_rings(program):
    """All rings, each one once for each of its counters at the first place."""
    ends = []
    for i in range(program.counters):
        taker = [k for k, step in enumerate(program.steps) if step[1][i]][0]
        giver = [k for k, step in enumerate(program.steps) if step[2][i]][0]
        ends.append((giver, taker))
    for many in range(1, program.counters + 1):
        for row in itertools.permutations(range(program.counters), many):
            if all(ends[here][1] == ends[behind][0] for here, behind in zip(row, row[1:] + row[:1])):
                yield row


def slow_live(program, place):
    return all(any(place[1][i] for i in row) for row in all_rings(program))


def distance(program, one, other, most):
    """The least number of steps from one to other, None if it is more than most."""
    seen, layer = {one}, [one]
    for length in range(most + 1):
        if other in layer:
            return length
        fresh = []
        for here in layer:
            for k in range(len(program.steps)):
                there = slow_next(program, here, k)
                if there is not None and there not in seen:
                    seen.add(there)
                    fresh.append(there)
        layer = fresh
    return None


def is_barred(program, one, other, told):
    y = told.y
    if not isinstance(y, tuple) or len(y) != program.counters:
        return False
    if any(type(sign) is not int or sign not in (-1, 0, 1) for sign in y):
        return False
    for _, takes, gives, _ in program.steps:
        if sum(y[i] * (gives[i] - takes[i]) for i in range(len(y))) != 0:
            return False
    return sum(y[i] * (other[1][i] - one[1][i]) for i in range(len(y))) != 0


def slow_is_told(program, one, other, told, shortest):
    """Whether a value is told by [43], shortest being the distance."""
    if type(told) is Barred:
        return is_barred(program, one, other, told)
    if type(told) is not Led or not isinstance(told.steps, tuple):
        return False
    here = one
    for k in told.steps:
        if type(k) is not int or not 0 <= k < len(program.steps):
            return False
        here = slow_next(program, here, k)
        if here is None:
            return False
    return here == other and len(told.steps) == shortest
