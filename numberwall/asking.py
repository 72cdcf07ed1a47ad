"""What a promise asks of programs, and whether it is kept."""

from numberwall.errors import NoName, Unlike
from numberwall.formulas import lot_of
from numberwall.promises import promise_of
from numberwall.settling import Run, Wall, settle

# What holds nowhere: nothing of its location is in the goal.
NOWHERE = ("less", (0, ()), (0, ()))


def question_of(programs, text):
    """The tuple (word, program, start, formulas, reads) of what a promise's text asks for."""
    name, word, start, goal, counters = promise_of(text)
    spoken = _found(name, [(one.name, one) for one in programs])
    configuration = _found(start, spoken.starts)
    formulas = _found(goal, spoken.goals)
    reads = () if word == "to" else _reads_of(spoken, counters)
    return (word, spoken.program, configuration, formulas, reads)


def _found(name, pairs):
    """What stands beside a name in a row of pairs."""
    for told, value in pairs:
        if told == name:
            return value
    raise NoName(name)


def _reads_of(spoken, names):
    """The ascending numbers of the counters of these names, of all counters if names is None."""
    if names is None:
        return tuple(range(len(spoken.counters)))
    for name in names:
        if name not in spoken.counters:
            raise NoName(name)
    for name in names:
        if names.count(name) > 1:
            raise Unlike(name)
    return tuple(sorted([spoken.counters.index(name) for name in names]))


def witness_of(question, steps, states):
    """What settle tells of what a promise asks for."""
    word, program, start, formulas, reads = question
    target = lot_of(program.counters, [NOWHERE if formula is None else formula
                                       for formula in formulas])
    return settle(program, start, target, reads, steps, 0 if word == "to" else states)


def is_kept_by(question, witness):
    """Whether a witness tells that a promise is kept."""
    return isinstance(witness, Run) if question[0] == "to" else isinstance(witness, Wall)
