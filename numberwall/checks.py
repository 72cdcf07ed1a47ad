"""What values are: integers, rows, reads, configurations and words."""


def is_integer(value):
    """Whether a value is an integer; True and False are none."""
    return isinstance(value, int) and not isinstance(value, bool)


def is_natural(value):
    """Whether a value is an integer from 0 on."""
    return is_integer(value) and value >= 0


def is_below(value, many):
    """Whether a value is one of the integers 0 to many - 1."""
    return is_natural(value) and value < many


def is_row(value):
    """Whether a value is a tuple or a list."""
    return isinstance(value, (tuple, list))


def are_naturals(value, many):
    """Whether a value is a row of just so many integers from 0 on."""
    return is_row(value) and len(value) == many and all([is_natural(item) for item in value])


def are_integers(value, many):
    """Whether a value is a row of just so many integers."""
    return is_row(value) and len(value) == many and all([is_integer(item) for item in value])


def are_reads(value, counters):
    """Whether a value is an ascending row of unlike counters of so many."""
    if not is_row(value) or not all([is_below(item, counters) for item in value]):
        return False
    return all([one < other for one, other in zip(value, value[1:])])


def is_placed(value, counters, locations):
    """Whether a value is a configuration with so many counters and locations; lists are none."""
    if not isinstance(value, tuple) or len(value) != 2:
        return False
    location, numbers = value
    return (is_below(location, locations) and isinstance(numbers, tuple)
            and are_naturals(numbers, counters))


def is_word(value, counters):
    """Whether a value is a row of columns of so many bits."""
    return is_row(value) and all([is_natural(item) and item.bit_length() <= counters
                                  for item in value])


def tupled(value):
    """A value with all lists in it, at every depth, made tuples."""
    # A stack of its own, as formulas in it may be deeper than calls may go.
    done = []
    todo = [(value, False)]
    while todo:
        item, is_opened = todo.pop()
        if is_opened:
            start = len(done) - len(item)
            done[start:] = [tuple(done[start:])]
        elif is_row(item):
            todo.append((item, True))
            todo.extend([(part, False) for part in item[::-1]])
        else:
            done.append(item)
    return done[0]
