"""Formulas as texts tell them, read at a cursor."""

from numberwall.names import begins_name, begins_number

MOST_BRACKETS = 20
JOINING = ("and", "or")
JOINING_OR_MOD = ("and", "or", "mod")


def read_formula(cursor, names):
    """The formula from here to the end of the line, over the counters of these names."""
    formula = _read_or(cursor, tuple(names), 0)
    if cursor.next_sign() != "":
        cursor.fail_in_words(JOINING)
    return formula


def _read_or(cursor, names, brackets):
    formula = _read_and(cursor, names, brackets)
    while cursor.next_run() == "or":
        cursor.read_word(("or",))
        formula = ("or", formula, _read_and(cursor, names, brackets))
    return formula


def _read_and(cursor, names, brackets):
    formula = _read_part(cursor, names, brackets)
    while cursor.next_run() == "and":
        cursor.read_word(("and",))
        formula = ("and", formula, _read_part(cursor, names, brackets))
    return formula


def _read_part(cursor, names, brackets):
    # Counted, as there may be more in a row than calls may go deep.
    negations = 0
    while cursor.next_run() == "not":
        cursor.read_word(("not",))
        negations += 1
    formula = _read_plain_part(cursor, names, brackets)
    for _ in range(negations):
        formula = ("not", formula)
    return formula


def _read_plain_part(cursor, names, brackets):
    if cursor.next_sign() == "(":
        return _read_bracket(cursor, names, brackets)
    if cursor.next_run() == "some":
        cursor.read_word(("some",))
        name = cursor.read_new(names)
        return ("some", _read_bracket(cursor, names + (name,), brackets))
    return _read_comparison(cursor, names)


def _read_bracket(cursor, names, brackets):
    if brackets == MOST_BRACKETS:
        cursor.next_sign()
        cursor.fail(0)
    cursor.read_sign(("(",))
    formula = _read_or(cursor, names, brackets + 1)
    if cursor.next_sign() != ")":
        cursor.fail_in_words(JOINING)
    cursor.read_sign((")",))
    return formula


def _read_comparison(cursor, names):
    one = _read_sum(cursor, names, ())
    sign = cursor.read_sign(("<=", ">=", "=", "<", ">"))
    if sign == "=":
        other = _read_sum(cursor, names, JOINING_OR_MOD)
        # No other word that may stand here begins like mod.
        if cursor.next_run()[:1] == "m":
            cursor.read_word(("mod",))
            return ("like", cursor.read_number(1), one, other)
        return ("equal", one, other)
    other = _read_sum(cursor, names, JOINING)
    if sign == "<":
        return ("less", one, other)
    if sign == ">":
        return ("less", other, one)
    if sign == "<=":
        return ("less", one, _one_more(other))
    return ("less", other, _one_more(one))


def _one_more(one):
    return (one[0] + 1, one[1])


def _read_sum(cursor, names, words):
    """A sum behind which, where a name could stand, one of the words may stand."""
    constant = 0
    coefficients = [0] * len(names)
    is_more = True
    while is_more:
        number, name = _read_term(cursor, names, words)
        if name is None:
            constant += number
        else:
            coefficients[names.index(name)] += number
        is_more = cursor.next_sign() == "+"
        if is_more:
            cursor.read_sign(("+",))
    return (constant, tuple([pair for pair in enumerate(coefficients) if pair[1] > 0]))


def _read_term(cursor, names, words):
    """The number and the name of a term, None for the name if it has none."""
    if not begins_number(cursor.next_run()):
        return (1, cursor.read_known(names))
    number = cursor.read_number(0)
    run = cursor.next_run()
    if begins_name(run) and run not in words:
        return (number, cursor.read_known(names))
    return (number, None)
