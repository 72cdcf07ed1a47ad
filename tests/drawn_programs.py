"""Programs, starts and targets made by chance, and the programs of the document's examples."""

from numberwall.lots import Lot, just_these
from numberwall.programs import Program
from slow_lots import drawn_lot

# One step adds 2; the target is 1.
TWO_MORE = Program(1, 1, ((0, (0,), (2,), 0),))
ONE = Lot(1, ((2, 1), (1, 2), (2, 2)), (False, True, False), (0,))
# Adds 1 to the counters by turns; the target is (1, 0) at location 0.
BY_TURNS = Program(2, 2, ((0, (0, 0), (1, 0), 1), (1, (0, 0), (0, 1), 0)))
ONE_AND_NONE = Lot(2, ((2, 1, 2, 2), (1, 2, 2, 2), (2, 2, 2, 2)), (False, True, False), (0, 2))
# The wall of the document for it: equal at location 0, one more at location 1.
TURNS_WALL = Lot(2, ((0, 1, 1, 0), (1, 1, 1, 1), (1, 0, 2, 1)), (True, False, False), (0, 2))


def drawn_program(chance, counters=None, most=4):
    if counters is None:
        counters = chance.randrange(4)
    locations = chance.randrange(1, 4)

    def row():
        return tuple(chance.choice((0, 0, 1, chance.randrange(most + 1))) for _ in range(counters))

    steps = [(chance.randrange(locations), row(), row(), chance.randrange(locations))
             for _ in range(chance.randrange(1, 6))]
    return Program(counters, locations, steps)


def drawn_place(chance, program, top):
    return (chance.randrange(program.locations),
            tuple(chance.randrange(top) for _ in range(program.counters)))


def drawn_target(chance, program):
    """A few configurations, or a Lot by chance."""
    if chance.random() < 0.7:
        places = [drawn_place(chance, program, 6) for _ in range(chance.randrange(1, 4))]
        return just_these(program.counters, program.locations, places)
    return drawn_lot(chance, program.counters, program.locations, 3)
