"""Walls: lots that let the start by, whatever a step makes of them, and nothing of the target."""

from numberwall.checks import is_below
from numberwall.errors import BadNumber
from numberwall.judging import Judge, StepReader, need_case
from numberwall.lots import lot_of_keys, need_lot
from numberwall.programs import turned
from numberwall.tables import end_of


def ahead(program, lot, k):
    """The Lot, in least form, of all that step k leads to what is in a lot."""
    need_lot(lot, program.counters, program.locations)
    if not is_below(k, len(program.steps)):
        raise BadNumber("step", k)
    here, takes, gives, there = program.steps[k]
    reader = StepReader(takes, gives)

    def go(pair, column):
        if pair is None:
            return None
        at, out = reader.moves[pair[0]][column]
        return (at, lot.moves[pair[1]][out])

    def is_good(pair):
        if pair is None or reader.rests[pair[0]] is None:
            return False
        return lot.good[end_of(lot.moves, pair[1], reader.rests[pair[0]])]

    # From None nothing is ever in: the step leads from its own location alone.
    begins = [(0, lot.begins[there]) if location == here else None
              for location in range(program.locations)]
    return lot_of_keys(program.counters, begins, go, is_good)


def behind(program, lot, k):
    """The Lot, in least form, of all to which step k leads from what is in a lot."""
    return ahead(turned(program), lot, k)


def first_wrong(program, start, target, lot, reads):
    """None if a lot of the read counters is a wall, otherwise the first thing that is wrong."""
    need_case(program, start, target, reads)
    need_lot(lot, len(reads), program.locations)
    return Judge(program, start, target, reads).first_wrong(lot)


def is_wall(program, start, target, lot, reads):
    """Whether a lot of the read counters is a wall from a start against a target."""
    return first_wrong(program, start, target, lot, reads) is None
