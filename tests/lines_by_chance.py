"""Lines of texts made by chance, right but for their names, and lines that are spoiled."""

from slow_columns import WORDS

NAMES = ["x", "an", "no", "y", "z9", "order", "modx", "takesx", "home", "so", "g", "abcdefghijkl",
         "abcdefghijklm", "n0", "n1", "step", "to", "a_b", "m", "notx", "_a", "9x", "Ab"]
PIECES = NAMES + WORDS + ["=", "<", ">", "<=", ">=", "+", "(", ")", ":", ",", "0", "1", "2", "10", "99",
                          "100", "05", "00", "7", "$", " ", "  ", "-"]


def chance_name(chance):
    return chance.choice(NAMES[:9] + ["n0"])


def chance_sum_line(chance, names):
    terms = []
    for _ in range(chance.choice((1, 1, 2, 3))):
        words = []
        if chance.random() < 0.6 or not names:
            words.append(str(chance.choice((0, 1, 2, 10, 99))))
        if not words or names and chance.random() < 0.5:
            words.append(chance.choice(names))
        terms.append(" ".join(words))
    return " + ".join(terms)


def chance_formula_line(chance, depth, names):
    kind = chance.randrange(9)
    if depth == 0 or kind < 3:
        sign = chance.choice(("=", "=", "<", ">", "<=", ">="))
        line = f"{chance_sum_line(chance, names)} {sign} {chance_sum_line(chance, names)}"
        return line + chance.choice(("", " mod 1", " mod 12")) if sign == "=" else line
    if kind == 3:
        return "not " + chance_formula_line(chance, depth - 1, names)
    if kind == 4:
        return "(" + chance_formula_line(chance, depth - 1, names) + ")"
    if kind == 5:
        name = chance.choice(("n0", "n1", "q", "an2", "nn"))
        inner = chance_formula_line(chance, depth - 1, [*names, name])
        return f"some {name} ({inner})"
    parts = [chance_formula_line(chance, depth - 1, names) for _ in range(2)]
    return chance.choice((" and ", " or ")).join(parts)


def chance_items(chance, counters):
    chosen = chance.sample(counters, chance.randint(1, len(counters))) if counters else ["x"]
    return ", ".join(chance.choice(("", "1 ", "2 ", "99 ")) + name for name in chosen)


def chance_line(chance, word, told):
    """A line that begins with a word, at a place at which these names are told."""
    counters, locations = told["counters"], told["locations"]
    if word == "program":
        return f"program {chance_name(chance)}"
    if word in ("counters", "locations"):
        many = chance.randint(word == "locations", 4)
        return " ".join([word, *chance.sample(NAMES[:12], many)])
    named = f"{word} {chance_name(chance)} : {chance.choice(locations)} "
    if word == "step":
        line = named + "to " + chance.choice(locations)
        for effect in (" takes ", " gives "):
            if chance.random() < 0.5:
                line += effect + chance_items(chance, counters)
        return line
    if word == "start":
        return named + " ".join(str(chance.choice((0, 1, 10, 99))) for _ in counters)
    if word == "goal":
        return named + chance_formula_line(chance, chance.randint(0, 3), counters)
    return "end"


def spoiled(chance, line):
    """The line with none, one or a few pieces of it cut out, put in or changed."""
    for _ in range(chance.choice((0, 1, 1, 1, 2, 3))):
        kind = chance.randrange(6)
        begin = chance.randint(0, len(line))
        words = line.split(" ")
        place = chance.randrange(len(words))
        piece = chance.choice(PIECES)
        if kind == 0:
            line = line[:begin]
        elif kind == 1:
            line = line[:begin] + line[begin + chance.choice((1, 2, 3, 5)):]
        elif kind == 2:
            line = line[:begin] + piece + line[begin:]
        elif kind == 3:
            line = " ".join(words[:place] + [piece] + words[place + 1:])
        elif kind == 4:
            line = " ".join(words[:place] + [chance.choice(words)] + words[place:])
        else:
            line = line.replace(" ", chance.choice(("", "  ")), chance.randint(1, 3))
    return line
