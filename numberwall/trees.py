"""Trees of cases: why no wall has at most so many states."""

from numberwall.checks import is_below, is_natural, is_placed
from numberwall.errors import BadNumber
from numberwall.judging import Judge, need_case
from numberwall.knowing import Known
from numberwall.lots import is_in
from numberwall.programs import next_one
from numberwall.searching import Search


def _judge(program, start, target, reads, states):
    """The judge of all these; the errors of is_tree."""
    need_case(program, start, target, reads)
    if not is_natural(states):
        raise BadNumber("states", states)
    return Judge(program, start, target, reads)


def is_tree(program, start, target, reads, states, told):
    """Whether any value is a tree of cases for at most so many states."""
    judge = _judge(program, start, target, reads, states)
    # A stack of its own, as any value may be deeper than calls may go.
    todo = [(Known((), {}), told)]
    while todo:
        known, part = todo.pop()
        if not isinstance(part, tuple) or not part:
            return False
        if part[0] in ("begins", "moves"):
            if not _is_asked(judge, known, part[:-1]) or not isinstance(part[-1], tuple):
                return False
            arms = known.arms(part[:-1], states)
            if len(arms) != len(part[-1]):
                return False
            todo.extend(list(zip(arms, part[-1])))
        elif not _is_leaf(judge, part) or not _is_settled(judge, known, part):
            return False
    return True


def _is_asked(judge, known, asked):
    """Whether something is asked that there is and that is not known."""
    if len(asked) == 2 and asked[0] == "begins":
        is_there = is_below(asked[1], judge.program.locations)
    elif len(asked) == 3 and asked[0] == "moves":
        is_there = (is_below(asked[1], len(known.good))
                    and is_below(asked[2], 1 << len(judge.reads)))
    else:
        is_there = False
    return is_there and asked not in known.told


def _is_leaf(judge, value):
    """Whether a row is a leaf, but for how its configurations are read."""
    program = judge.program
    if value == ("start",):
        return True
    if not is_placed(value[-1], program.counters, program.locations):
        return False
    if value[0] == "target":
        return len(value) == 2 and is_in(judge.target, value[1])
    return (value[0] == "step" and len(value) == 3 and is_below(value[1], len(program.steps))
            and next_one(program, value[2], value[1]) is not None)


def _is_settled(judge, known, leaf):
    """Whether all that a leaf tells is known to be read so."""
    return all([known.read(location, word) == (None, truth)
                for location, word, truth in judge.readings_of(leaf)])


def leaves_of(tree):
    """The tuple of the leaves of a tree, from the left."""
    leaves = []
    todo = [tree]
    while todo:
        part = todo.pop()
        if _has_arms(part):
            todo.extend(part[-1][::-1])
        else:
            leaves.append(part)
    return tuple(leaves)


def _has_arms(tree):
    return tree[0] in ("begins", "moves")


def depth_of(tree):
    """The greatest number of items above one leaf; an item without arms counts itself."""
    depth = 0
    layer = [tree]
    while True:
        items = [part for part in layer if _has_arms(part)]
        if not items:
            return depth
        depth += 1
        layer = [arm for part in items for arm in part[-1]]


def leaf_for(tree, lot):
    """The pair of the leaf to which a lot's answers lead, and the row of its states as they come
    up; None if they lead to an item that has no arm for the answer."""
    states = []
    while _has_arms(tree):
        answer = _answer_of(lot, states, tree)
        named = _named_answers(lot, states, tree)
        if answer in named:
            place = named.index(answer)
        else:
            place = len(named)
            # Of two arms for a new state the second one is for one that is not good.
            if not _is_by_zero(tree) and not lot.good[answer]:
                place += 1
            states.append(answer)
        if place >= len(tree[-1]):
            return None
        tree = tree[-1][place]
    return (tree, tuple(states))


def _answer_of(lot, states, item):
    """The state of a lot that an item asks for, states being those named so far."""
    if item[0] == "begins":
        return lot.begins[item[1]]
    return lot.moves[states[item[1]]][item[2]]


def _named_answers(lot, states, item):
    """The states named so far for which an item has arms, in their order."""
    known = Known(tuple([lot.good[state] for state in states]), {})
    return [states[name] for name in known.alike(item[:-1])]


def _is_by_zero(item):
    return item[0] == "moves" and item[2] == 0


def cases(program, start, target, reads, states):
    """("wall", lot) with a wall of at most so many states, or ("tree", tree)."""
    search = Search(_judge(program, start, target, reads, states), states)
    tree = search.whole_tree()
    return ("wall", search.wall) if tree is None else ("tree", tree)
