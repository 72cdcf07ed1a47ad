"""Runs of nets without joins that do each step as often as counts tell."""

from numberwall.arrows import ways_from
from numberwall.programs import next_one


def ordered_run(program, start, counts):
    """A run from start that does each step so often, by counts with a fed support whose sums are
    not below 0."""
    left = list(counts)
    run = []
    here = start
    while True:
        more = _done_from(program, here, left)
        run.extend(more)
        for k in more:
            left[k] -= 1
        if sum(left) == 0:
            return tuple(run)
        place, ring = _round_within(program, start, run, left)
        often = min([left[k] for k in ring])
        run[place:place] = list(ring) * often
        for k in ring:
            left[k] -= often
        here = _moments(program, start, run)[-1]


def _done_from(program, start, left):
    """The steps that can be done one behind another, none more often than it is left."""
    still = list(left)
    run = []
    here = start
    k = _first_at(program, here, still)
    while k is not None:
        here = next_one(program, here, k)
        still[k] -= 1
        run.append(k)
        k = _first_at(program, here, still)
    return run


def _first_at(program, here, left):
    """The first step that is left and can be done, None if there is none."""
    for k, often in enumerate(left):
        if often > 0 and next_one(program, here, k) is not None:
            return k
    return None


def _moments(program, start, run):
    """The configurations ahead of each step of a run, and behind the last one."""
    moments = [start]
    for k in run:
        moments.append(next_one(program, moments[-1], k))
    return moments


def _round_within(program, start, run, left):
    """A place of a run, and a row of steps that are left and can be done there: each one takes what
    the one ahead gave, and the last one gives back what the first one took."""
    arrows = _arrows_of(program, left)
    moments = _moments(program, start, run)
    for i in range(program.counters):
        places = [place for place, (_, numbers) in enumerate(moments) if numbers[i] > 0]
        ways = ways_from(i, arrows)
        rounds = [ways[tail] + (k,) for tail, head, k in arrows if head == i and tail in ways]
        if places and rounds:
            return (places[0], min(rounds, key=len))
    return None


def _arrows_of(program, left):
    """The arrows from the counter that a step takes to those that it gives, of all steps left."""
    arrows = []
    for k, (_, takes, gives, _) in enumerate(program.steps):
        if left[k] > 0:
            # What takes nothing is not left: the step takes from just one counter.
            arrows.extend([(takes.index(1), head, k) for head, give in enumerate(gives) if give > 0])
    return arrows
