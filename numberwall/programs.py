"""Programs with counters, their configurations and runs."""

from numberwall.checks import are_naturals, are_reads, is_below, is_integer, is_natural, is_placed
from numberwall.checks import is_row, tupled
from numberwall.errors import BadConfiguration, BadNumber, BadProgram, BadReads, BadStep


class Program:
    """So many counters and locations, and a row of steps (from, takes, gives, to)."""

    def __init__(self, counters, locations, steps):
        if not is_natural(counters):
            raise BadNumber("counters", counters)
        if not is_integer(locations) or locations < 1:
            raise BadNumber("locations", locations)
        if not is_row(steps):
            raise BadProgram(None)
        for index, step in enumerate(steps):
            if not _is_step(step, counters, locations):
                raise BadProgram(index)
        self.counters = counters
        self.locations = locations
        self.steps = tupled(steps)

    def __eq__(self, other):
        return (isinstance(other, Program) and self.counters == other.counters
                and self.locations == other.locations and self.steps == other.steps)


def _is_step(value, counters, locations):
    if not is_row(value) or len(value) != 4:
        return False
    here, takes, gives, there = value
    return (is_below(here, locations) and are_naturals(takes, counters)
            and are_naturals(gives, counters) and is_below(there, locations))


def is_configuration(program, value):
    """Whether any value is a configuration of the program."""
    return is_placed(value, program.counters, program.locations)


def need_configuration(program, value):
    """Raise BadConfiguration for what is no configuration of the program."""
    if not is_configuration(program, value):
        raise BadConfiguration(value)


def _need_most(most):
    if not is_natural(most):
        raise BadNumber("steps", most)


def _behind(configuration, step):
    """The configuration behind a step, None if it cannot be done."""
    location, numbers = configuration
    here, takes, gives, there = step
    if location != here or any([has < take for has, take in zip(numbers, takes)]):
        return None
    return (there, tuple([has - take + give for has, take, give in zip(numbers, takes, gives)]))


def _all_behind(program, configuration):
    """The pairs (step, configuration behind it) of all steps that can be done."""
    behind = [(k, _behind(configuration, step)) for k, step in enumerate(program.steps)]
    return [(k, there) for k, there in behind if there is not None]


def steps_at(program, configuration):
    """The ascending tuple of the numbers of all steps that can be done there."""
    need_configuration(program, configuration)
    return tuple([k for k, _ in _all_behind(program, configuration)])


def next_one(program, configuration, k):
    """The configuration to which step k leads from this one, or None."""
    need_configuration(program, configuration)
    if not is_below(k, len(program.steps)):
        raise BadNumber("step", k)
    return _behind(configuration, program.steps[k])


def behind_run(program, configuration, run):
    """The configuration to which a run leads from this one."""
    need_configuration(program, configuration)
    here = configuration
    for index, k in enumerate(run):
        there = _behind(here, program.steps[k]) if is_below(k, len(program.steps)) else None
        if there is None:
            raise BadStep(index)
        here = there
    return here


def end_of_run(program, configuration, value):
    """The configuration to which any value leads from this one, None if it is no run."""
    if not is_row(value):
        return None
    try:
        return behind_run(program, configuration, value)
    except BadStep:
        return None


def layers(program, start, most):
    """The layers 0 to most, but not beyond the first empty one."""
    need_configuration(program, start)
    _need_most(most)
    seen = {start}
    layer = (start,)
    found = [layer]
    while layer and len(found) <= most:
        fresh = []
        for here in layer:
            for _, there in _all_behind(program, here):
                if there not in seen:
                    seen.add(there)
                    fresh.append(there)
        layer = tuple(sorted(fresh))
        found.append(layer)
    return tuple(found)


def run_to(program, start, goal, most):
    """The least of the shortest runs from start to goal of at most so many steps, or None."""
    need_configuration(program, start)
    need_configuration(program, goal)
    _need_most(most)
    runs = {start: ()}
    layer = [start]
    length = 0
    while layer and length < most and goal not in runs:
        fresh = []
        # A layer stands in the order of its least runs: the first run found is the least one.
        for here in layer:
            for k, there in _all_behind(program, here):
                if there not in runs:
                    runs[there] = runs[here] + (k,)
                    fresh.append(there)
        layer = fresh
        length += 1
    return runs.get(goal)


def turned(program):
    """The program with each step turned about."""
    steps = [(there, gives, takes, here) for here, takes, gives, there in program.steps]
    return Program(program.counters, program.locations, steps)


def cut(program, reads):
    """The program with the counters in reads alone."""
    if not are_reads(reads, program.counters):
        raise BadReads(reads)
    steps = [(here, [takes[i] for i in reads], [gives[i] for i in reads], there)
             for here, takes, gives, there in program.steps]
    return Program(len(reads), program.locations, steps)
