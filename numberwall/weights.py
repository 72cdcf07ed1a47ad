"""Walls of weights, and what numbers of steps make of configurations if counters may owe."""

from math import gcd, lcm

from numberwall.checks import are_integers, is_integer, is_row, tupled
from numberwall.errors import BadNumber
from numberwall.programs import need_configuration
from numberwall.solving import parts, parts_from_zero, times, wholes
from numberwall.sums import equal_lot, like_lot, most_lot


class Flow:
    """Ratios from 0 on, one for each step, that make one configuration of another one."""

    def __init__(self, z):
        self.z = tupled(z)

    def __eq__(self, other):
        return isinstance(other, Flow) and self.z == other.z


class Sinking:
    """Weights with no gain above 0 by which the wanted configuration weighs more."""

    def __init__(self, y, v):
        self.y = tupled(y)
        self.v = tupled(v)

    def __eq__(self, other):
        return isinstance(other, Sinking) and self.y == other.y and self.v == other.v


class Wholes:
    """Integers, one for each step, that make one configuration of another one."""

    def __init__(self, z):
        self.z = tupled(z)

    def __eq__(self, other):
        return isinstance(other, Wholes) and self.z == other.z


class Steady:
    """Weights by which gains are multiples of n, but not what is gained in all."""

    def __init__(self, y, v, n):
        self.y = tupled(y)
        self.v = tupled(v)
        self.n = tupled(n)

    def __eq__(self, other):
        return (isinstance(other, Steady) and self.y == other.y and self.v == other.v
                and self.n == other.n)


class Ratios:
    """Ratios of any sign, one for each step, that make one configuration of another one."""

    def __init__(self, z):
        self.z = tupled(z)

    def __eq__(self, other):
        return isinstance(other, Ratios) and self.z == other.z


class Equal:
    """Weights by which all gains are 0, but two configurations weigh unlike."""

    def __init__(self, y, v):
        self.y = tupled(y)
        self.v = tupled(v)

    def __eq__(self, other):
        return isinstance(other, Equal) and self.y == other.y and self.v == other.v


def weights_equal(y, v, c):
    """The Lot, in least form, of all configurations whose weight is c."""
    return equal_lot(y, [c - weight for weight in v])


def weights_below(y, v, c):
    """The Lot, in least form, of all configurations whose weight is at most c."""
    return most_lot(y, [c - weight for weight in v])


def weights_like(y, v, n, c):
    """The Lot, in least form, of all configurations whose weight less c is a multiple of n."""
    if not is_integer(n) or n < 1:
        raise BadNumber("n", n)
    return like_lot(y, n, [c - weight for weight in v])


def _change(program, one, other):
    """What is changed from one configuration to another: the counters, then the locations."""
    here, has = one
    there, wants = other
    moved = [(location == there) - (location == here) for location in range(program.locations)]
    return [want - held for held, want in zip(has, wants)] + moved


def _changes(program):
    """What each step changes."""
    return [_change(program, (here, takes), (there, gives))
            for here, takes, gives, there in program.steps]


def _need_both(program, one, other):
    need_configuration(program, one)
    need_configuration(program, other)


def by_parts(program, one, other):
    """A Flow that makes other of one, or a Sinking by which there is none."""
    _need_both(program, one, other)
    z, shown = parts_from_zero(_changes(program), _change(program, one, other))
    if z is not None:
        return Flow(z)
    return Sinking(shown[:program.counters], shown[program.counters:])


def by_wholes(program, one, other):
    """Wholes that make other of one, or a Steady by which there are none."""
    _need_both(program, one, other)
    z, shown = wholes(_changes(program), _change(program, one, other))
    if z is not None:
        return Wholes(z)
    weights, n = shown
    return Steady(weights[:program.counters], weights[program.counters:], n)


def by_ratios(program, one, other):
    """Ratios that make other of one, or an Equal by which there are none."""
    _need_both(program, one, other)
    z, shown = parts(_changes(program), _change(program, one, other))
    if z is not None:
        return Ratios(z)
    return Equal(shown[:program.counters], shown[program.counters:])


def is_by_parts(program, one, other, told):
    """Whether any value is what by_parts may tell."""
    _need_both(program, one, other)
    if isinstance(told, Flow):
        return (_are_ratios(told.z, len(program.steps)) and _is_made(program, one, other, told.z)
                and all([ratio[0] >= 0 for ratio in told.z]))
    if not isinstance(told, Sinking) or not _are_weights(program, told):
        return False
    gains, gained = _gains(program, one, other, told)
    return gained > 0 and all([gain <= 0 for gain in gains])


def is_by_wholes(program, one, other, told):
    """Whether any value is what by_wholes may tell."""
    _need_both(program, one, other)
    if isinstance(told, Wholes):
        return (are_integers(told.z, len(program.steps))
                and _is_made(program, one, other, [(number, 1) for number in told.z]))
    if not isinstance(told, Steady) or not _are_weights(program, told):
        return False
    if not is_integer(told.n) or told.n < 2:
        return False
    gains, gained = _gains(program, one, other, told)
    return gained % told.n != 0 and all([gain % told.n == 0 for gain in gains])


def is_by_ratios(program, one, other, told):
    """Whether any value is what by_ratios may tell."""
    _need_both(program, one, other)
    if isinstance(told, Ratios):
        return _are_ratios(told.z, len(program.steps)) and _is_made(program, one, other, told.z)
    if not isinstance(told, Equal) or not _are_weights(program, told):
        return False
    gains, gained = _gains(program, one, other, told)
    return gained != 0 and all([gain == 0 for gain in gains])


def _are_ratios(value, many):
    return is_row(value) and len(value) == many and all([_is_ratio(item) for item in value])


def _is_ratio(value):
    if not are_integers(value, 2):
        return False
    numerator, denominator = value
    return denominator > 0 and gcd(numerator, denominator) == 1


def _is_made(program, one, other, ratios):
    """Whether so many of each step make other of one."""
    whole = 1
    for _, denominator in ratios:
        whole = lcm(whole, denominator)
    often = [numerator * (whole // denominator) for numerator, denominator in ratios]
    changes = _changes(program)
    return all([times(often, [change[place] for change in changes]) == whole * wanted
                for place, wanted in enumerate(_change(program, one, other))])


def _are_weights(program, told):
    return are_integers(told.y, program.counters) and are_integers(told.v, program.locations)


def _gains(program, one, other, told):
    """The gains of all steps by weights, and how much other weighs more than one."""
    weights = told.y + told.v
    return ([times(weights, change) for change in _changes(program)],
            times(weights, _change(program, one, other)))
