"""Formulas of [20] made by chance."""


def chance_sum(chance, variables):
    pairs = [(variable, chance.choice((1, 1, 2, 10, 99))) for variable in range(variables)
             if chance.random() < 0.4]
    return (chance.choice((0, 0, 1, 7, 99)), tuple(pairs))


def chance_formula(chance, variables, depth):
    if depth == 0 or chance.random() < 0.2:
        one, other = chance_sum(chance, variables), chance_sum(chance, variables)
        return chance.choice((("equal", one, other), ("less", one, other),
                              ("like", chance.choice((1, 2, 99)), one, other)))
    word = chance.choice(("not", "and", "or", "and", "or", "some"))
    if word == "some":
        return ("some", chance_formula(chance, variables + 1, depth - 1))
    parts = [chance_formula(chance, variables, depth - 1) for _ in range(1 if word == "not" else 2)]
    return (word, *parts)
