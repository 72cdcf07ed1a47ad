"""What [36] to [40] say of weights, gains, and of what numbers of steps make, word by word."""

from fractions import Fraction
from math import gcd

from numberwall.weights import Equal, Flow, Ratios, Sinking, Steady, Wholes


def weight_of(y, v, place):
    location, x = place
    return sum(y[i] * x[i] for i in range(len(y))) + v[location]


def gains_of(program, y, v):
    return [weight_of(y, v, (end, gives)) - weight_of(y, v, (start, takes))
            for start, takes, gives, end in program.steps]


def makes(program, one, other, z):
    """Whether numbers of steps make other of one."""
    for i in range(program.counters):
        total = sum(z[k] * (step[2][i] - step[1][i]) for k, step in enumerate(program.steps))
        if total != other[1][i] - one[1][i]:
            return False
    for location in range(program.locations):
        led = sum(z[k] for k, step in enumerate(program.steps) if step[3] == location)
        led -= sum(z[k] for k, step in enumerate(program.steps) if step[0] == location)
        way = 0
        if one[0] != other[0]:
            way = 1 if location == other[0] else -1 if location == one[0] else 0
        if led != way:
            return False
    return True


def ratios_of(value, many):
    """The fractions of a row of so many ratios, None if it is none."""
    if not isinstance(value, tuple) or len(value) != many:
        return None
    for ratio in value:
        if not isinstance(ratio, tuple) or [type(part) for part in ratio] != [int, int]:
            return None
        if ratio[1] < 1 or gcd(*ratio) != 1:
            return None
    return [Fraction(*ratio) for ratio in value]


def are_whole(value, many):
    return (isinstance(value, tuple) and len(value) == many
            and all(type(number) is int for number in value))


def slow_judge(kinds, program, one, other, told):
    """Whether a value is what is described of one of these kinds."""
    if type(told) not in kinds:
        return False
    many = len(program.steps)
    if type(told) in (Flow, Ratios):
        z = ratios_of(told.z, many)
        return (z is not None and makes(program, one, other, z)
                and (type(told) is Ratios or min(z, default=0) >= 0))
    if type(told) is Wholes:
        return are_whole(told.z, many) and makes(program, one, other, told.z)
    if not are_whole(told.y, program.counters) or not are_whole(told.v, program.locations):
        return False
    gains = gains_of(program, told.y, told.v)
    gained = weight_of(told.y, told.v, other) - weight_of(told.y, told.v, one)
    if type(told) is Sinking:
        return max(gains, default=0) <= 0 < gained
    if type(told) is Equal:
        return set(gains) <= {0} and gained != 0
    return (type(told.n) is int and told.n >= 2 and all(gain % told.n == 0 for gain in gains)
            and gained % told.n != 0)


PARTS, WHOLES, RATIOS = (Flow, Sinking), (Wholes, Steady), (Ratios, Equal)
