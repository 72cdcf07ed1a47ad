"""Texts of programs, starts and goals, and of formulas."""

from numberwall.checks import tupled
from numberwall.cursors import Cursor
from numberwall.errors import BadLine, BadText
from numberwall.formula_reading import read_formula
from numberwall.program_reading import read_drafts
from numberwall.programs import Program


class Spoken:
    """A program with a name, the names of its parts, and its named starts and goals."""

    def __init__(self, name, program, counters, locations, steps, starts, goals):
        self.name = tupled(name)
        self.program = tupled(program)
        self.counters = tupled(counters)
        self.locations = tupled(locations)
        self.steps = tupled(steps)
        self.starts = tupled(starts)
        self.goals = tupled(goals)

    def __eq__(self, other):
        return isinstance(other, Spoken) and _fields_of(self) == _fields_of(other)


def _fields_of(spoken):
    return (spoken.name, spoken.program, spoken.counters, spoken.locations, spoken.steps,
            spoken.starts, spoken.goals)


def spoken_of(text):
    """The tuple of the spoken programs of a text."""
    if not isinstance(text, str):
        raise BadLine(0, 0)
    return tuple([_spoken(draft) for draft in read_drafts(text)])


def _spoken(draft):
    program = Program(len(draft.counters), len(draft.locations), draft.rows)
    return Spoken(draft.name, program, draft.counters, draft.locations, draft.steps,
                  draft.starts, draft.goals)


def text_of(spoken):
    """The text of a spoken program."""
    inner = [" ".join(["counters", *spoken.counters]), " ".join(["locations", *spoken.locations])]
    for name, step in zip(spoken.steps, spoken.program.steps):
        inner.append(_step_line(spoken, name, step))
    for name, (location, numbers) in spoken.starts:
        words = [str(number) for number in numbers]
        inner.append(" ".join(["start", name, ":", spoken.locations[location], *words]))
    for name, formulas in spoken.goals:
        for location, formula in zip(spoken.locations, formulas):
            if formula is not None:
                inner.append(f"goal {name} : {location} {formula_text(formula, spoken.counters)}")
    lines = [f"program {spoken.name}", *[f"  {line}" for line in inner], "end"]
    return "".join([f"{line}\n" for line in lines])


def _step_line(spoken, name, step):
    here, takes, gives, there = step
    words = ["step", name, ":", spoken.locations[here], "to", spoken.locations[there]]
    for word, row in (("takes", takes), ("gives", gives)):
        items = [_times(many, counter) for many, counter in zip(row, spoken.counters) if many > 0]
        if items:
            words.extend([word, ", ".join(items)])
    return " ".join(words)


def _times(many, name):
    return name if many == 1 else f"{many} {name}"


def formula_text(formula, names):
    """The text of a formula over the counters of these names."""
    return _or_text(formula, tuple(names))


def _or_text(formula, names):
    return " or ".join([_and_text(part, names) for part in _left_parts(formula, "or")])


def _and_text(formula, names):
    return " and ".join([_part_text(part, names) for part in _left_parts(formula, "and")])


def _left_parts(formula, word):
    """The formulas that a word joins from the left, where no brackets are needed."""
    parts = []
    while formula[0] == word:
        parts.append(formula[2])
        formula = formula[1]
    parts.append(formula)
    return parts[::-1]


def _part_text(formula, names):
    negations = 0
    while formula[0] == "not":
        formula = formula[1]
        negations += 1
    return "not " * negations + _plain_text(formula, names)


def _plain_text(formula, names):
    if formula[0] in ("and", "or"):
        return f"({_or_text(formula, names)})"
    if formula[0] == "some":
        name = _fresh_name(names)
        return f"some {name} ({_or_text(formula[1], names + (name,))})"
    one, other = [_sum_text(each, names) for each in formula[-2:]]
    if formula[0] == "like":
        return f"{one} = {other} mod {formula[1]}"
    sign = "=" if formula[0] == "equal" else "<"
    return f"{one} {sign} {other}"


def _fresh_name(names):
    k = 0
    while f"n{k}" in names:
        k += 1
    return f"n{k}"


def _sum_text(one, names):
    constant, pairs = one
    terms = [_times(coefficient, names[variable]) for variable, coefficient in pairs]
    if constant != 0 or not terms:
        terms.append(str(constant))
    return " + ".join(terms)


def formula_of(text, names):
    """The formula of a text over the counters of these names."""
    if not isinstance(text, str):
        raise BadText(0)
    return read_formula(Cursor(text), names)
