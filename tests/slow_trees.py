"""Trees of cases looked through word by word as [28] tells them, and all tables of some size."""

import itertools

from numberwall.errors import BadLot
from numberwall.lots import Lot
from numberwall.programs import is_configuration, next_one
from slow_lots import order_of, slow_in


def slow_is_tree(program, start, target, reads, states, told, good=(), moves=(), begins=()):
    """Whether any value is a tree, by what is known: good of the named states, and pairs
    (asked, state) in moves and begins."""
    if not isinstance(told, tuple) or len(told) == 0:
        return False
    word, *rest = told
    if word == "begins" or word == "moves":
        if len(rest) != (2 if word == "begins" else 3) or not isinstance(rest[-1], tuple):
            return False
        *asked, arms = rest
        if any(type(number) is not int or number < 0 for number in asked):
            return False
        if word == "begins":
            if asked[0] >= program.locations or asked[0] in dict(begins):
                return False
        elif (asked[0] >= len(good) or asked[1] >= 2 ** len(reads) or tuple(asked) in dict(moves)):
            return False
        wanted = []
        for state in range(len(good)):
            if word == "begins" or asked[1] != 0 or good[state] == good[asked[0]]:
                wanted.append((state, good))
        if len(good) < states:
            for truth in (True, False):
                if word == "begins" or asked[1] != 0 or truth == good[asked[0]]:
                    wanted.append((len(good), good + (truth,)))
        if len(arms) != len(wanted):
            return False
        for arm, (state, named) in zip(arms, wanted):
            more = [] if word == "begins" else [(tuple(asked), state)]
            first = [(asked[0], state)] if word == "begins" else []
            if not slow_is_tree(program, start, target, reads, states, arm, named,
                                [*moves, *more], [*begins, *first]):
                return False
        return True

    def is_read_in(place):
        """True or False, None if something is not known."""
        cut = (place[0], tuple(place[1][i] for i in reads))
        state = dict(begins).get(cut[0])
        for column in order_of(cut)[2]:
            state = dict(moves).get((state, column))
        return None if state is None else good[state]

    if told == ("start",):
        return is_read_in(start) is False
    if len(told) == 2 and word == "target":
        place = rest[0]
        return (is_configuration(program, place) and slow_in(target, place)
                and is_read_in(place) is True)
    if len(told) == 3 and word == "step":
        k, place = rest
        if type(k) is not int or not 0 <= k < len(program.steps):
            return False
        if not is_configuration(program, place):
            return False
        there = next_one(program, place, k)
        return there is not None and is_read_in(place) is True and is_read_in(there) is False
    return False


def all_tables(counters, locations, states):
    """All Lots of just so many states."""
    numbers = range(states)
    for good in itertools.product((True, False), repeat=states):
        for begins in itertools.product(numbers, repeat=locations):
            for flat in itertools.product(numbers, repeat=states * 2 ** counters):
                moves = [flat[q * 2 ** counters:(q + 1) * 2 ** counters] for q in numbers]
                try:
                    yield Lot(counters, moves, good, begins)
                except BadLot:
                    pass


def is_wrong_in(program, start, target, reads, lot, leaf):
    """Whether a table is no wall by what a leaf tells."""
    def is_read_in(place):
        return slow_in(lot, (place[0], [place[1][i] for i in reads]))

    if leaf[0] == "start":
        return not is_read_in(start)
    if leaf[0] == "target":
        return is_read_in(leaf[1]) and slow_in(target, leaf[1])
    return is_read_in(leaf[2]) and not is_read_in(next_one(program, leaf[2], leaf[1]))


def changed(value):
    """All that come of a tree by one change: something less, more, exchanged, or a list."""
    if isinstance(value, tuple):
        yield list(value)
        yield value + value[-1:]
        for place, part in enumerate(value):
            yield value[:place] + value[place + 1:]
            if place > 0 and part != value[place - 1]:
                yield (*value[:place - 1], part, value[place - 1], *value[place + 1:])
            for other in changed(part):
                yield (*value[:place], other, *value[place + 1:])
    elif isinstance(value, int):
        for other in (value + 1, value - 1, value + 2, True, False, None, str(value), 9):
            yield other
    else:
        for other in ("begins", "moves", "start", "target", "step", "", None, 0, ("start",)):
            yield other
