"""Runs into a target, and the layers of configurations ahead of it."""

from numberwall.checks import is_row
from numberwall.lots import is_in
from numberwall.programs import end_of_run, is_configuration, layers, run_to


def run_and_layers(program, start, target, most):
    """A shortest run into the target and the layers of all lesser numbers of steps; None and the
    layers 0 to most if there is no run of at most so many steps."""
    told = layers(program, start, most)
    for length, layer in enumerate(told):
        for goal in layer:
            if is_in(target, goal):
                return (run_to(program, start, goal, length), told[:length])
    return (None, told)


def is_run_into(program, start, target, most, value):
    """Whether any value is a run of at most so many steps from the start into the target."""
    there = end_of_run(program, start, value)
    return there is not None and len(value) <= most and is_in(target, there)


def are_layers(program, start, target, many, value):
    """Whether any value are the first so many layers, with nothing of the target in them."""
    if not is_row(value) or not all([is_row(layer) for layer in value]):
        return False
    places = [place for layer in value for place in layer]
    # Looked at first, as True is equal to 1 but is no number.
    if not all([is_configuration(program, place) for place in places]):
        return False
    if any([is_in(target, place) for place in places]):
        return False
    return value == (layers(program, start, many - 1) if many > 0 else ())
