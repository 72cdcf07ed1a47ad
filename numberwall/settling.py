"""What settles a program, a start and a target: a run, a wall, or neither of such sizes."""

from numberwall.checks import is_natural, tupled
from numberwall.errors import BadNumber
from numberwall.judging import need_case
from numberwall.layering import are_layers, is_run_into, run_and_layers
from numberwall.lots import Lot
from numberwall.trees import cases, is_tree
from numberwall.walls import is_wall


class Run:
    """A shortest run into the target, and the layers of all lesser numbers of steps."""

    def __init__(self, steps, layers):
        self.steps = tupled(steps)
        self.layers = tupled(layers)

    def __eq__(self, other):
        return (isinstance(other, Run) and self.steps == other.steps
                and self.layers == other.layers)


class Wall:
    """A wall of the least number of states, and a tree of cases for one state less."""

    def __init__(self, lot, tree):
        self.lot = tupled(lot)
        self.tree = tupled(tree)

    def __eq__(self, other):
        return isinstance(other, Wall) and self.lot == other.lot and self.tree == other.tree


class Neither:
    """All layers, none of them with anything of the target, and a tree of cases."""

    def __init__(self, layers, tree):
        self.layers = tupled(layers)
        self.tree = tupled(tree)

    def __eq__(self, other):
        return (isinstance(other, Neither) and self.layers == other.layers
                and self.tree == other.tree)


def _need_all(program, start, target, reads, steps, states):
    need_case(program, start, target, reads)
    if not is_natural(steps):
        raise BadNumber("steps", steps)
    if not is_natural(states):
        raise BadNumber("states", states)


def settle(program, start, target, reads, steps, states):
    """The Run of at most so many steps, the Wall of at most so many states, or Neither."""
    _need_all(program, start, target, reads, steps, states)
    run, told = run_and_layers(program, start, target, steps)
    if run is not None:
        return Run(run, told)
    tree = None
    for many in range(states + 1):
        kind, found = cases(program, start, target, reads, many)
        if kind == "wall":
            return Wall(found, tree)
        tree = found
    return Neither(told, tree)


def is_settled(program, start, target, reads, steps, states, told):
    """Whether any value is what settle may tell."""
    _need_all(program, start, target, reads, steps, states)
    if isinstance(told, Run):
        return (is_run_into(program, start, target, steps, told.steps)
                and are_layers(program, start, target, len(told.steps), told.layers))
    if isinstance(told, Wall):
        lot = told.lot
        return (_is_lot(lot, len(reads), program.locations) and len(lot.moves) <= states
                and is_wall(program, start, target, lot, reads)
                and is_tree(program, start, target, reads, len(lot.moves) - 1, told.tree))
    if isinstance(told, Neither):
        return (are_layers(program, start, target, steps + 1, told.layers)
                and is_tree(program, start, target, reads, states, told.tree))
    return False


def _is_lot(value, counters, locations):
    return (isinstance(value, Lot) and value.counters == counters
            and len(value.begins) == locations)
