"""Crowds of little processes with locks and buffers, as counter programs."""

from numberwall.checks import are_naturals, is_below, is_integer, is_natural, is_row, tupled
from numberwall.errors import BadNumber, BadProgram, BadStep
from numberwall.programs import Program

# A sum that is 0, and a formula that always holds.
NOTHING = (0, ())
ALWAYS = ("equal", (0, ()), (0, ()))


class Crowd:
    """Kinds of processes, each one a row (places, starts, rows); locks; and the rooms of buffers."""

    def __init__(self, kinds, locks, buffers):
        self.kinds = tupled(kinds)
        self.locks = tupled(locks)
        self.buffers = tupled(buffers)

    def __eq__(self, other):
        return (isinstance(other, Crowd) and self.kinds == other.kinds
                and self.locks == other.locks and self.buffers == other.buffers)


def check_crowd(crowd):
    """Raise the error of the first thing of a crowd that is not as described."""
    if not is_natural(crowd.locks):
        raise BadNumber("locks", crowd.locks)
    if not is_row(crowd.buffers) or not all([_is_room(room) for room in crowd.buffers]):
        raise BadNumber("buffers", crowd.buffers)
    if not is_row(crowd.kinds) or len(crowd.kinds) == 0:
        raise BadNumber("kinds", crowd.kinds)
    for at, kind in enumerate(crowd.kinds):
        if not _is_kind(kind):
            raise BadProgram((at, None))
        for number, row in enumerate(kind[2]):
            if not _is_process_row(crowd, kind[0], row):
                raise BadProgram((at, number))


def _is_room(value):
    return value is None or is_natural(value)


def _is_kind(value):
    """Whether a value is a kind, whatever stands in its rows."""
    if not is_row(value) or len(value) != 3:
        return False
    places, starts, rows = value
    return is_natural(places) and places > 0 and are_naturals(starts, places) and is_row(rows)


def _is_process_row(crowd, places, value):
    if not is_row(value) or len(value) != 3:
        return False
    here, acts, there = value
    if not is_below(here, places) or not is_row(acts) or not is_below(there, places):
        return False
    if not all([_is_act(crowd, act) for act in acts]):
        return False
    return not any([_is_against(act, acts) for act in acts])


def _is_act(crowd, value):
    if not is_row(value) or len(value) < 2:
        return False
    word, *numbers = value
    if word == "new":
        return (len(numbers) == 2 and is_below(numbers[0], len(crowd.kinds))
                and is_below(numbers[1], _places_said(crowd.kinds[numbers[0]])))
    if word in ("take", "free"):
        return len(numbers) == 1 and is_below(numbers[0], crowd.locks)
    if word in ("put", "get"):
        return len(numbers) == 1 and is_below(numbers[0], len(crowd.buffers))
    return False


def _places_said(kind):
    """How many places a kind says it has, whatever else is wrong of it."""
    if is_row(kind) and len(kind) > 0 and is_natural(kind[0]):
        return kind[0]
    return 0


def _is_against(act, acts):
    """Whether an act stands beside one that bars it: itself once more, put beside get."""
    if act[0] == "new":
        return False
    return acts.count(act) > 1 or (act[0] == "put" and ("get", act[1]) in acts)


def _numbers_of(crowd):
    """By what a counter counts: its number."""
    counted = [("place", at, place) for at, kind in enumerate(crowd.kinds)
               for place in range(kind[0])]
    counted.extend([("lock", k) for k in range(crowd.locks)])
    counted.extend([("buffer", b) for b in range(len(crowd.buffers))])
    counted.extend([("room", b) for b, room in enumerate(crowd.buffers) if room is not None])
    return {what: number for number, what in enumerate(counted)}


def _rows_of(crowd):
    """The pairs (kind, number of its row) of all rows."""
    return [(at, number) for at, kind in enumerate(crowd.kinds) for number in range(len(kind[2]))]


def program_of(crowd):
    """The Program whose counters are the places, locks, buffers and rooms of a crowd."""
    check_crowd(crowd)
    numbers = _numbers_of(crowd)
    steps = []
    for at, number in _rows_of(crowd):
        here, acts, there = crowd.kinds[at][2][number]
        taken = [("place", at, here)]
        given = [("place", at, there)]
        for act in acts:
            taken.extend(_taken_by(act))
            given.extend(_given_by(act))
        steps.append((0, _counted(numbers, taken), _counted(numbers, given), 0))
    return Program(len(numbers), 1, steps)


def _taken_by(act):
    """What an act takes 1 of."""
    word = act[0]
    if word == "take":
        return [("lock", act[1])]
    if word == "put":
        return [("room", act[1])]
    return [("buffer", act[1])] if word == "get" else []


def _given_by(act):
    """What an act gives 1 to."""
    word = act[0]
    if word == "new":
        return [("place", act[1], act[2])]
    if word == "free":
        return [("lock", act[1])]
    if word == "put":
        return [("buffer", act[1])]
    return [("room", act[1])] if word == "get" else []


def _counted(numbers, things):
    """How often each counter's thing stands in a row; the room without end is no counter's."""
    row = [0] * len(numbers)
    for what in things:
        if what in numbers:
            row[numbers[what]] += 1
    return row


def start_of(crowd):
    """The configuration at first."""
    check_crowd(crowd)
    numbers = [start for kind in crowd.kinds for start in kind[1]]
    numbers.extend([1] * crowd.locks + [0] * len(crowd.buffers))
    numbers.extend([room for room in crowd.buffers if room is not None])
    return (0, tuple(numbers))


def counter_of(crowd, what):
    """The number of the counter of a place, a lock, a buffer or its room."""
    check_crowd(crowd)
    number = _number_of(crowd, what)
    if number is None:
        raise BadNumber("what", what)
    return number


def _number_of(crowd, what):
    """The number of a thing's counter, None for any value that is no such thing."""
    if not is_row(what) or len(what) == 0 or not isinstance(what[0], str):
        return None
    if not all([is_integer(item) for item in what[1:]]):
        return None
    return _numbers_of(crowd).get(tuple(what))


def row_of(crowd, step):
    """The pair (kind, number of its row) of a step."""
    check_crowd(crowd)
    rows = _rows_of(crowd)
    if not is_below(step, len(rows)):
        raise BadStep(step)
    return rows[step]


def _place_number(crowd, value):
    """The number of the counter of a pair (kind, place), None for any value that is none."""
    return _number_of(crowd, ("place", *value)) if is_row(value) else None


def _sum_of(numbers):
    return (0, tuple([(number, 1) for number in sorted(numbers)]))


def alone(crowd, places):
    """The formula that at most one process is at all of these places together."""
    check_crowd(crowd)
    if not is_row(places):
        raise BadNumber("places", places)
    numbers = [_place_number(crowd, place) for place in places]
    if None in numbers or len(set(numbers)) != len(numbers):
        raise BadNumber("places", places)
    return ("not", ("less", (1, ()), _sum_of(numbers)))


def all_at(crowd, place):
    """The formula that all processes of the kind of a place are at it."""
    check_crowd(crowd)
    number = _place_number(crowd, place)
    if number is None:
        raise BadNumber("place", place)
    at = place[0]
    every = [_place_number(crowd, (at, other)) for other in range(crowd.kinds[at][0])]
    return ("equal", _sum_of([other for other in every if other != number]), NOTHING)


def stuck(crowd):
    """The formula that no row can go on."""
    formula = None
    for _, takes, _, _ in program_of(crowd).steps:
        barred = _barred(takes)
        formula = barred if formula is None else ("and", formula, barred)
    return ALWAYS if formula is None else formula


def _barred(takes):
    """The formula that some counter holds less than is taken from it."""
    formula = None
    for i, take in enumerate(takes):
        if take > 0:
            less = ("less", (0, ((i, 1),)), (take, ()))
            formula = less if formula is None else ("or", formula, less)
    return formula
