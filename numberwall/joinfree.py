"""Nets without joins: each step takes at most one. All that they reach is told exactly."""

from numberwall.checks import are_naturals, are_reads
from numberwall.coming import Coming, changes_of, counts_by
from numberwall.errors import BadNumber, NotOfKind
from numberwall.feeding import all_fed, courses_of, is_fed_support
from numberwall.lots import least_in, lot_of_keys, meet, need_lot, word_of
from numberwall.ordering import ordered_run
from numberwall.programs import need_configuration


def need_joinless(program):
    """Raise NotOfKind for what is no net without joins."""
    if program.locations > 1:
        raise NotOfKind("locations")
    if any([sum(takes) > 1 for _, takes, _, _ in program.steps]):
        raise NotOfKind("joins")


def _need_start(program, start):
    need_joinless(program)
    need_configuration(program, start)


def is_fed(program, start, support):
    """Whether a support is fed at start."""
    _need_start(program, start)
    if not are_reads(support, len(program.steps)):
        raise BadNumber("support", support)
    return is_fed_support(program, start[1], support)


def fed_supports(program, start):
    """The ascending tuple of all supports that are fed at start."""
    _need_start(program, start)
    return tuple(all_fed(program, start[1]))


def run_by_counts(program, start, counts):
    """A run from start that does each step just so often, None if there is none."""
    _need_start(program, start)
    if not are_naturals(counts, len(program.steps)):
        raise BadNumber("counts", counts)
    support = [k for k, often in enumerate(counts) if often > 0]
    if not is_fed_support(program, start[1], support):
        return None
    changes = changes_of(program)
    for i, number in enumerate(start[1]):
        if number + sum([often * change[i] for often, change in zip(counts, changes)]) < 0:
            return None
    return ordered_run(program, start, counts)


def reached(program, start):
    """The Lot, in least form, of all that is reached from start."""
    _need_start(program, start)
    coming = Coming(program, start[1], courses_of(program, start[1]))
    return lot_of_keys(program.counters, [coming.needed(coming.begins)],
                       lambda numbers, column: coming.go(numbers, column),
                       lambda numbers: numbers & coming.good != 0)


def counts_to(program, start, goal):
    """Counts with a fed support that lead from start to goal, None if it is not reached."""
    _need_start(program, start)
    need_configuration(program, goal)
    return counts_by(program, start[1], courses_of(program, start[1]), word_of(goal[1]))


def run_into(program, start, target):
    """A run from start to the least configuration that is reached and in target, or None."""
    _need_start(program, start)
    need_lot(target, program.counters, 1)
    goal = least_in(meet(reached(program, start), target))
    return None if goal is None else run_by_counts(program, start, counts_to(program, start, goal))
