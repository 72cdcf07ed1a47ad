"""Marked graphs: programs in which each counter has one giver and one taker."""

from numberwall.arrows import ways_from
from numberwall.checks import are_integers, tupled
from numberwall.errors import NotOfKind
from numberwall.programs import end_of_run, need_configuration, next_one
from numberwall.solving import times


class Led:
    """A run of the least number of steps that leads there."""

    def __init__(self, steps):
        self.steps = tupled(steps)

    def __eq__(self, other):
        return isinstance(other, Led) and self.steps == other.steps


class Barred:
    """Weights -1, 0 and 1 of the counters by which no step gains, but the sums are unlike."""

    def __init__(self, y):
        self.y = tupled(y)

    def __eq__(self, other):
        return isinstance(other, Barred) and self.y == other.y


def check_graph(program):
    """Raise NotOfKind for what is no marked graph."""
    if program.locations > 1:
        raise NotOfKind("locations")
    for i in range(program.counters):
        takers, givers = _ends_of(program, i)
        if len(takers) != 1 or len(givers) != 1:
            raise NotOfKind(("counter", i))
        if program.steps[takers[0]][1][i] > 1 or program.steps[givers[0]][2][i] > 1:
            raise NotOfKind(("counter", i))


def _ends_of(program, i):
    """The steps that take something from a counter, and those that give something to it."""
    takers = [k for k, step in enumerate(program.steps) if step[1][i] > 0]
    givers = [k for k, step in enumerate(program.steps) if step[2][i] > 0]
    return (takers, givers)


def _arcs_of(program):
    """For each counter the pair of its giver and its taker."""
    ends = [_ends_of(program, i) for i in range(program.counters)]
    return [(givers[0], takers[0]) for takers, givers in ends]


def empty_ring(program, configuration):
    """A ring whose counters are all 0, None if there is none."""
    check_graph(program)
    need_configuration(program, configuration)
    empty = [(*arc, i) for i, arc in enumerate(_arcs_of(program)) if configuration[1][i] == 0]
    for giver, taker, i in empty:
        ways = ways_from(taker, empty)
        if giver in ways:
            return (i, *ways[giver])
    return None


def _parts_of(program):
    """The parts of steps that hang together by counters, each one a dict: for each step a way to it
    from one of them, a row of pairs (counter, 1 or -1 if it is gone against its way)."""
    arrows = []
    for i, (giver, taker) in enumerate(_arcs_of(program)):
        arrows.extend([(giver, taker, (i, 1)), (taker, giver, (i, -1))])
    found = []
    for k in range(len(program.steps)):
        if not any([k in ways for ways in found]):
            found.append(ways_from(k, arrows))
    return found


def _need_run(program, one, other):
    check_graph(program)
    need_configuration(program, one)
    need_configuration(program, other)
    if empty_ring(program, one) is not None:
        raise NotOfKind("live")


def graph_run(program, one, other):
    """A Led with a shortest run from one to other, or a Barred by which there is none."""
    _need_run(program, one, other)
    wanted = [wants - has for has, wants in zip(one[1], other[1])]
    arcs = _arcs_of(program)
    often = {}
    for ways in _parts_of(program):
        counts = {k: -sum([sign * wanted[i] for i, sign in way]) for k, way in ways.items()}
        for i, (giver, taker) in enumerate(arcs):
            if giver in ways and wanted[i] != counts[giver] - counts[taker]:
                return Barred(_round_of(program, ways[giver] + ((i, 1),), ways[taker]))
        least = min(list(counts.values()))
        for k, count in counts.items():
            often[k] = count - least
    return Led(_played(program, one, often))


def _round_of(program, there, back):
    """The weights of a round that goes one way there, and another one against its way back."""
    weights = [0] * program.counters
    for i, sign in there:
        weights[i] += sign
    for i, sign in back:
        weights[i] -= sign
    return weights


def _played(program, one, often):
    """A run from a configuration that does each step so often as told."""
    run = []
    here = one
    left = sum(list(often.values()))
    while len(run) < left:
        for k in sorted(often):
            there = next_one(program, here, k) if often[k] > 0 else None
            if there is not None:
                often[k] -= 1
                run.append(k)
                here = there
    return run


def is_graph_told(program, one, other, told):
    """Whether any value is what graph_run may tell."""
    _need_run(program, one, other)
    if isinstance(told, Led):
        return _is_shortest(program, one, other, told.steps)
    if not isinstance(told, Barred) or not are_integers(told.y, program.counters):
        return False
    if any([abs(weight) > 1 for weight in told.y]):
        return False
    return (all([times(told.y, takes) == times(told.y, gives) for _, takes, gives, _ in program.steps])
            and times(told.y, one[1]) != times(told.y, other[1]))


def _is_shortest(program, one, other, value):
    """Whether a value is a run of the least number of steps from one to other."""
    # All runs to the same place differ by one number for all steps of a part.
    return (end_of_run(program, one, value) == other
            and all([min([value.count(k) for k in ways]) == 0 for ways in _parts_of(program)]))
