"""Formulas of sums, and the lots of the rows at which they hold."""

from numberwall.checks import is_below, is_natural, is_row
from numberwall.errors import BadFormula, BadNumber
from numberwall.lots import Lot, join, least, least_in, left_out, meet, some, word_of
from numberwall.sums import equal_lot, like_lot, most_lot

# By its word: how many items a formula has.
LENGTHS = {"equal": 3, "less": 3, "like": 4, "not": 2, "and": 3, "or": 3, "some": 2}
COMPARISONS = ("equal", "less", "like")


def is_formula(variables, value):
    """Whether any value is a formula over so many variables."""
    if not is_natural(variables):
        raise BadNumber("variables", variables)
    # A stack of its own, as any value may be deeper than calls may go.
    todo = [(variables, value)]
    while todo:
        many, part = todo.pop()
        if not _is_top(many, part):
            return False
        todo.extend(_inner_formulas(many, part))
    return True


def _is_top(variables, value):
    """Whether a value is a formula, whatever its inner formulas are."""
    if not isinstance(value, tuple) or not value or not isinstance(value[0], str):
        return False
    word = value[0]
    if LENGTHS.get(word) != len(value):
        return False
    if word == "like" and not (is_natural(value[1]) and value[1] > 0):
        return False
    return word not in COMPARISONS or all([_is_sum(variables, one) for one in value[-2:]])


def _inner_formulas(variables, formula):
    """The pairs (number of its variables, formula) of a formula's inner formulas."""
    word = formula[0]
    if word in COMPARISONS:
        return []
    many = variables + 1 if word == "some" else variables
    return [(many, part) for part in formula[1:]]


def _is_sum(variables, value):
    if not isinstance(value, tuple) or len(value) != 2:
        return False
    constant, pairs = value
    if not is_natural(constant) or not isinstance(pairs, tuple):
        return False
    if not all([_is_term(variables, pair) for pair in pairs]):
        return False
    return all([one[0] < other[0] for one, other in zip(pairs, pairs[1:])])


def _is_term(variables, value):
    return (isinstance(value, tuple) and len(value) == 2 and is_below(value[0], variables)
            and is_natural(value[1]) and value[1] > 0)


def worth(one, x):
    """The worth of a sum at a row of numbers."""
    constant, pairs = one
    return constant + sum([coefficient * x[variable] for variable, coefficient in pairs])


def holds(formula, x):
    """Whether a formula without "some" holds at a row of numbers."""
    if not is_formula(len(x), formula) or _has_some(formula):
        raise BadFormula(formula)
    return _holds(formula, x)


def _has_some(formula):
    if formula[0] == "some":
        return True
    return any([_has_some(part) for _, part in _inner_formulas(0, formula)])


def _holds(formula, x):
    word = formula[0]
    if word == "not":
        return not _holds(formula[1], x)
    if word == "and":
        return _holds(formula[1], x) and _holds(formula[2], x)
    if word == "or":
        return _holds(formula[1], x) or _holds(formula[2], x)
    one, other = [worth(each, x) for each in formula[-2:]]
    if word == "equal":
        return one == other
    if word == "less":
        return one < other
    return (one - other) % formula[1] == 0


def lot_of(counters, formulas):
    """The Lot, in least form, of all (l, x) such that formulas[l] holds at x."""
    if not is_natural(counters):
        raise BadNumber("counters", counters)
    if not is_row(formulas) or len(formulas) == 0:
        raise BadFormula(formulas)
    for formula in formulas:
        if not is_formula(counters, formula):
            raise BadFormula(formula)
    return _side_by_side([_lot_of_one(counters, formula) for formula in formulas])


def _side_by_side(lots):
    """The Lot, in least form, whose location l is the only one of lots[l]."""
    moves = []
    good = []
    begins = []
    for lot in lots:
        ahead = len(moves)
        moves.extend([[ahead + state for state in row] for row in lot.moves])
        good.extend(lot.good)
        begins.append(ahead + lot.begins[0])
    return least(Lot(lots[0].counters, moves, good, begins))


def _lot_of_one(counters, formula):
    """The Lot, in least form and with one location, of all x at which a formula holds."""
    word = formula[0]
    if word in COMPARISONS:
        return _lot_of_comparison(counters, formula)
    if word == "some":
        return _lot_of_some(counters, formula)
    parts = [_lot_of_one(counters, part) for part in formula[1:]]
    if word == "not":
        return left_out(parts[0])
    return meet(parts[0], parts[1]) if word == "and" else join(parts[0], parts[1])


def _lot_of_some(counters, formula):
    lots = [_lot_of_one(counters + 1, way) for way in _ways_of(formula[1])]
    whole = _joined(lots)
    # Sets of states grow fast with the lot whose states they are: each way goes by itself, but
    # where all of them together are no greater than one of them.
    if len(whole.moves) <= max([len(lot.moves) for lot in lots]):
        return some(whole, counters)
    return _joined([some(lot, counters) for lot in lots])


def _joined(lots):
    found = lots[0]
    for lot in lots[1:]:
        found = join(found, lot)
    return found


def _ways_of(formula):
    """Formulas of which one at least holds exactly where the formula does."""
    word = formula[0]
    if word == "or":
        return _ways_of(formula[1]) + _ways_of(formula[2])
    if word == "and":
        return [("and", one, other) for one in _ways_of(formula[1])
                for other in _ways_of(formula[2])]
    if word == "some":
        return [("some", way) for way in _ways_of(formula[1])]
    if word == "not" and formula[1][0] in ("not", "and", "or"):
        return _ways_of(_opposite(formula[1]))
    return [formula]


def _opposite(formula):
    """What holds where a formula of "not", "and" or "or" does not."""
    if formula[0] == "not":
        return formula[1]
    word = "or" if formula[0] == "and" else "and"
    return (word, ("not", formula[1]), ("not", formula[2]))


def _lot_of_comparison(counters, formula):
    one, other = formula[-2:]
    weights = [0] * counters
    for variable, coefficient in one[1]:
        weights[variable] += coefficient
    for variable, coefficient in other[1]:
        weights[variable] -= coefficient
    rest = other[0] - one[0]
    if formula[0] == "equal":
        return equal_lot(weights, [rest])
    if formula[0] == "less":
        return most_lot(weights, [rest - 1])
    return like_lot(weights, formula[1], [rest])


def least_case(counters, formula):
    """The least x at which a formula holds, None if there is none."""
    found = least_in(lot_of(counters, (formula,)))
    return None if found is None else found[1]


def witness(formula, x):
    """The least number with which the formula within a "some" holds at x, None if none does."""
    if not is_formula(len(x), formula) or formula[0] != "some":
        raise BadFormula(formula)
    counters = len(x)
    lot = _lot_of_one(counters + 1, formula[1])
    found = _least_ends(lot, 1 << counters)
    # From the last column on: the least number behind each state, with that column ahead of it.
    for column in word_of(x)[::-1]:
        found = _least_ahead(lot, found, column, 1 << counters)
    return found[lot.begins[0]]


def _least_ends(lot, bit):
    """For each state the least number that, with 0 for all other counters, ends well, or None."""
    found = [0 if truth else None for truth in lot.good]
    before = None
    while found != before:
        before = found
        found = _least_ahead(lot, before, 0, bit)
    return found


def _least_ahead(lot, found, column, bit):
    """The least numbers one column ahead of where those in found begin."""
    return [_least_of_two(found[row[column]], found[row[column + bit]]) for row in lot.moves]


def _least_of_two(even, odd):
    """The least number of twice the one and twice the other with 1 more, None for none."""
    numbers = [2 * even] if even is not None else []
    if odd is not None:
        numbers.append(2 * odd + 1)
    return min(numbers, default=None)
