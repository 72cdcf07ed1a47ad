"""What formulas say, tried out number by number."""


def slow_holds(formula, x, most):
    """Whether a formula holds at x, a "some" being tried with numbers up to most alone."""
    word = formula[0]
    if word == "some":
        return any(slow_holds(formula[1], (*x, y), most) for y in range(most + 1))
    if word in ("not", "and", "or"):
        truths = [slow_holds(part, x, most) for part in formula[1:]]
        return {"not": not truths[0], "and": all(truths), "or": any(truths)}[word]
    one, other = [constant + sum(many * x[variable] for variable, many in pairs)
                  for constant, pairs in formula[-2:]]
    if word == "like":
        return abs(one - other) % formula[1] == 0
    return one == other if word == "equal" else one < other


def small_sum(chance, variables):
    pairs = tuple((variable, chance.randrange(1, 4)) for variable in range(variables)
                  if chance.random() < 0.6)
    return (chance.randrange(6), pairs)


def small_formula(chance, variables, depth, somes):
    """A formula by chance, with a "some" at most so often within one another."""
    if depth == 0:
        one, other = small_sum(chance, variables), small_sum(chance, variables)
        return chance.choice((("equal", one, other), ("less", one, other),
                              ("like", chance.randrange(1, 7), one, other)))
    word = chance.choice(("not", "and", "or", "and", "or") + ("some", "some") * (somes > 0))
    if word == "some":
        # With this bound told, numbers up to 9 are all that need to be tried.
        inner = small_formula(chance, variables + 1, depth - 1, somes - 1)
        return ("some", ("and", ("less", (0, ((variables, 1),)), (10, ())), inner))
    many = 1 if word == "not" else 2
    return (word, *[small_formula(chance, variables, depth - 1, somes) for _ in range(many)])
