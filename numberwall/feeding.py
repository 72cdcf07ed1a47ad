"""What a support feeds in a net without joins, and the courses that counts may take."""


def fed_counters(program, numbers, support):
    """For each counter whether a support feeds it where the counters hold these numbers."""
    fed = [number > 0 for number in numbers]
    before = None
    while fed != before:
        before = list(fed)
        for k in support:
            if is_provided(program, k, fed):
                gives = program.steps[k][2]
                fed = [truth or give > 0 for truth, give in zip(fed, gives)]
    return fed


def is_provided(program, k, fed):
    """Whether a step takes from fed counters alone."""
    return all([truth or take == 0 for truth, take in zip(fed, program.steps[k][1])])


def is_fed_support(program, numbers, support):
    """Whether a support is fed where the counters hold these numbers."""
    fed = fed_counters(program, numbers, support)
    return all([is_provided(program, k, fed) for k in support])


def all_fed(program, numbers):
    """The ascending row of all fed supports."""
    supports = [()]
    for k in range(len(program.steps)):
        supports = supports + [support + (k,) for support in supports]
    return sorted([support for support in supports if is_fed_support(program, numbers, support)])


def courses_of(program, numbers):
    """Pairs (must, may) of rows of steps: counts have a fed support exactly if by one of the pairs
    they do each step of must once at least, and none but those of may."""
    steps = range(len(program.steps))
    courses = []
    # Fed counters let more steps be done or not: so not each support is a course of its own.
    for support in sorted(all_fed(program, numbers), key=len):
        if not any([_is_between(support, must, may) for must, may in courses]):
            fed = fed_counters(program, numbers, support)
            courses.append((support, tuple([k for k in steps if is_provided(program, k, fed)])))
    return courses


def _is_between(support, must, may):
    return all([k in support for k in must]) and all([k in may for k in support])
