"""What settle may tell, by [32] and [34] word by word, with steps played bit by bit of the text."""

from numberwall.lots import Lot
from numberwall.settling import Neither, Run, Wall
from numberwall.walls import is_wall
from slow_lots import slow_in
from slow_trees import slow_is_tree


def slow_next(program, place, k):
    """Where a step leads, None if it cannot be done."""
    start, takes, gives, end = program.steps[k]
    location, x = place
    if location != start or any(x[i] < takes[i] for i in range(len(x))):
        return None
    return (end, tuple(x[i] - takes[i] + gives[i] for i in range(len(x))))


def slow_layers(program, start, most):
    """The layers 0 to most, as long as none is empty; the first empty one, too."""
    distance = {start: 0}
    found = [(start,)]
    for i in range(most):
        if not found[-1]:
            break
        for here in found[-1]:
            for k in range(len(program.steps)):
                there = slow_next(program, here, k)
                if there is not None:
                    distance.setdefault(there, i + 1)
        found.append(tuple(sorted(place for place in distance if distance[place] == i + 1)))
    return tuple(found)


def slow_is_settled(program, start, target, reads, steps, states, told):
    if type(told) is Run:
        if not isinstance(told.steps, tuple) or len(told.steps) > steps:
            return False
        here = start
        for k in told.steps:
            if type(k) is not int or not 0 <= k < len(program.steps):
                return False
            here = slow_next(program, here, k)
            if here is None:
                return False
        expected = slow_layers(program, start, len(told.steps))[:len(told.steps)]
        # By what is written, as True is equal to 1.
        return (slow_in(target, here) and repr(told.layers) == repr(expected)
                and not any(slow_in(target, place) for layer in expected for place in layer))
    if type(told) is Wall:
        lot = told.lot
        if type(lot) is not Lot or lot.counters != len(reads):
            return False
        if len(lot.begins) != program.locations or len(lot.moves) > states:
            return False
        return (is_wall(program, start, target, lot, reads)
                and slow_is_tree(program, start, target, reads, len(lot.moves) - 1, told.tree))
    if type(told) is Neither:
        expected = slow_layers(program, start, steps)
        return (repr(told.layers) == repr(expected)
                and not any(slow_in(target, place) for layer in expected for place in layer)
                and slow_is_tree(program, start, target, reads, states, told.tree))
    return False
