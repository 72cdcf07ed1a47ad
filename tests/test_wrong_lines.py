"""[5]: the line and the column of each error in a text of programs."""

import random
import unittest

from numberwall.errors import BadLine, BadText
from numberwall.texts import formula_of, spoken_of
from lines_by_chance import chance_formula_line, chance_line, spoiled
from raising import Raising
from slow_columns import LINES, slow_column, slow_formula_column

OTHER = ["program first", "  counters", "  locations a", "end"]
HEAD = ["program p", "  counters x y order", "  locations home far"]
STEPS = HEAD + ["  step go : home to far takes 2 x gives y, x"]
STARTS = STEPS + ["  start s : home 1 2 3"]
GOALS = STARTS + ["  goal old : far x = 1", "  goal g : home x = y"]


class WrongLines(Raising):
    def wrong_at(self, lines, *rows):
        """Behind these right lines each row, without the sign ^ in it, is wrong at that sign."""
        for row in rows:
            line, place = row.replace("^", ""), (len(lines) + 1, row.index("^") + 1)
            for text in ("\n".join([*lines, line]), "\n".join([*lines, line, "?", ""])):
                self.wrong_place(text, *place)

    def wrong_place(self, text, line, column):
        self.wrong(BadLine, {"line": line, "column": column}, spoken_of, text)

    def test_no_strings(self):
        for value in (None, 5, True, b"program p", ["program p"], ("program p",)):
            self.wrong_place(value, 0, 0)

    def test_lines_are_counted_whatever_they_are(self):
        self.wrong_place("\n   \n  $\n", 3, 3)
        self.wrong_place("program p\n\n  counters\n \n?", 5, 1)
        self.wrong_place("\n".join(OTHER) + "\n $", 5, 2)
        self.wrong_place("program p\n\tcounters", 2, 1)
        self.wrong_place("program p\r\n", 1, 10)

    def test_first_wrong_line(self):
        self.wrong_place("program p\ncounter x\nlocation", 2, 8)

    def test_text_ends_within_a_program(self):
        for lines in (HEAD[:1], HEAD[:2], HEAD, STEPS, STARTS, GOALS, OTHER + HEAD[:1]):
            many = len(lines)
            for end, more in (("", 1), ("\n", 1), ("\n\n", 2), ("\n  ", 2), ("\n  \n \n", 3)):
                self.wrong_place("\n".join(lines) + end, many + more, 1)

    def test_lines_in_the_wrong_order(self):
        self.wrong_at([], "^counters x", "^end", "^?", "   ^step")
        self.wrong_at(HEAD[:1], "^program q", "^locations a", "^end", "^step")
        self.wrong_at(HEAD[:2], "^counters x", "^step s : a to a", "^end")
        self.wrong_at(HEAD, "^locations a", "^counters", "^program q", "  goa^t")
        self.wrong_at(STARTS, "st^ep t : home to far", "s^", "st^")
        self.wrong_at(GOALS, "^start t : home 0 0 0", "^step t : home to far")
        self.wrong_at(OTHER, "^end", "^start", "^goal")

    def test_first_words(self):
        self.wrong_at([], "p^", "prog^", "program^", "program  ^", "program^s p", "program^: p",
                      "^Program p", "prog^ ram")
        self.wrong_at(HEAD[:1], "counter^", "counters^x", "counters^,", "counter^ x")
        self.wrong_at(HEAD[:2], "locations^", "locations   ^", "location^ a")
        self.wrong_at(HEAD, "step^", "step^s", "e^", "en^", "end^x", "end ^x", "end ^1", "end ^end",
                      "goal^s g", "start^s s", "st^op")

    def test_names_of_programs(self):
        self.wrong_at(OTHER, "program ^first", "  program   ^first x", "program firs_ ^1",
                      "program q ^q", "program ^1p", "program ^_p", "program ^Q", "program q^Q",
                      "program abcdefghijkl^m", "program step^", "program by^", "program never^ ",
                      "program q^-", "program firstfirstfi^rst", "program ^first$")

    def test_names_of_counters_and_locations(self):
        self.wrong_at(HEAD[:1], "counters x y ^x", "counters x and^", "counters x^, y", "counters ^1",
                      "counters x ^2", "counters x ^: y", "counters a abcdefghijkl^m",
                      "counters x x1 ^x1")
        self.wrong_at(HEAD[:2], "locations a b ^b", "locations end^", "locations ^0",
                      "locations a ^;", "locations program^")

    def test_steps(self):
        self.wrong_at(
            STEPS, "step ^go : home to far", "step ^go", "step t^", "step t ^", "step t ^home",
            "step to^ : home to far", "step ^: home to far", "step t :^", "step t : ^",
            "step t : ^hom", "step t : home^", "step t : home t^", "step t : home to^o far",
            "step t : home ^far", "step t : ^homes to far", "step t : ^x to far",
            "step t : to^ to far", "step t : home to^", "step t : home to ^fa",
            "step t : home to mod^", "step t : home to ^x", "step t : home to far ^far",
            "step t:home to far^:", "step t : home to far ^2 x", "step t : ^1 to far",
            "step t : home ^: far", "step t :^: home to far", "step t : homeisherean^dthere to far")

    def test_takes_and_gives(self):
        begin = "step t : home to far "
        for row in ("t^", "take^", "takes^x", "takes^", "takes ^", "g^", "give^", "gives^", "take^ x",
                    "^and", "takes ^z", "takes 2 ^z", "takes x,^", "takes x, ^x", "takes x, 2 ^x",
                    "takes x,^, y", "takes x ^y", "takes ^0 x", "takes ^05 x", "takes 10^0 x",
                    "takes 2^x", "takes 2^, x", "takes 2^", "takes x ^2", "takes ^, x",
                    "takes gives^ x", "takes x g^", "takes x give^", "takes x give^n",
                    "takes x gives^", "takes x gives x, y, ^x", "takes x ^takes y",
                    "gives x ^takes y", "gives x ^gives y", "gives x, or^", "takes 1 ^1 x",
                    "takes x, orderorderor^de", "takes ^xx", "takes 2 ^home", "takes x ^+ y",
                    "takes step^", "gives ^00 y", "gives 10^_ y"):
            self.wrong_at(HEAD, begin + row)

    def test_items_where_there_are_no_counters(self):
        self.wrong_at(OTHER[:3], "step s : a to a takes ^x", "step s : a to a takes^",
                      "start s : a ^1", "start s : ^a1", "goal g : a ^x = 1")

    def test_starts(self):
        self.wrong_at(
            STARTS, "start ^s : home 1 2 3", "start t^", "start t :^", "start t : ^x 1 2 3",
            "start t : home^", "start t : home ^", "start t : home 1 2^",
            "start t : home 1 2 3 ^4", "start t : home 1 2 ^x", "start t : home 10^0 2 3",
            "start t : home 1 0^2 3", "start t : home 1^, 2, 3", "start t : home 1 2 3^x",
            "start t : home ^-1 2 3", "start goal^ : home 1 2 3", "start t : home 1 2 3 ^x",
            "start ^1 : home 1 2 3", "start t ^home", "start t : home 12^3")

    def test_goals(self):
        self.wrong_at(
            GOALS, "goal^", "goal g^", "goal g :^", "goal ^old : home x = 1",
            "goal g : ^home x = 1", "goal g : ^hom x = 1", "goal g : far^", "goal g : far ^",
            "goal g : far x^", "goal g : far ^z = 1", "goal g : far x = y o^",
            "goal g : far x = 1^)", "goal g : far (x = 1^", "goal g : far ^far = 1",
            "goal g : far x = 1 mod ^0", "goal not^ : far x = 1", "goal h : ^x x = 1",
            "goal h : far x = 1^, y = 1", "goal h ^far x = 1", "goal h : far some ^x (x = 1)",
            "goal h : far x = 2 order ^1", "goal h : far " + "(" * 20 + "^(",
            "goal h : far x < 1 mod^ 2", "goal h : far x < y ^mod 2")
        both = [*GOALS, "goal g:far(x=1)"]
        self.wrong_at(both, "goal g : ^far x = 1", "goal g^", "goal g : ^h")
        self.wrong_at([*both, "goal h : far 1 = 1"], "goal ^g : home 1 = 1", "goal ^old")

    def test_right_ones_at_the_edges(self):
        for lines in ([*GOALS, "goal g:far(x=1)"], [*GOALS, "goal h : home 0 = 0"],
                      [*HEAD, "step s:far to far gives 1 y", "start s : far 0 0 99"],
                      [*OTHER, *HEAD], [*STARTS, "start old : home 1 2 3", "goal s : far x < 1"]):
            self.assertEqual(spoken_of("\n".join([*lines, "  end  "]))[-1].name, "p")


class FoundSignBySign(unittest.TestCase):
    """Lines made and spoiled by chance are wrong where trying all ways finds them wrong."""

    def test_lines(self):
        chance = random.Random(3)
        for _ in range(2500):
            lines, words, told = chance.choice(list(places(chance)))
            word = chance.choice(words if chance.random() < 0.9 else list(LINES))
            line = spoiled(chance, chance_line(chance, word, told))
            if line.strip(" ") != "":
                self.assertEqual(column_of("\n".join([*lines, line]), len(lines) + 1),
                                 slow_column(line, words, told), (lines, line))

    def test_formulas(self):
        chance = random.Random(4)
        names = ["x", "an", "no"]
        for _ in range(2500):
            text = spoiled(chance, chance_formula_line(chance, chance.randrange(5), names))
            try:
                formula_of(text, names)
                column = None
            except BadText as wrong:
                column = wrong.column
            self.assertEqual(column, slow_formula_column(text, names), text)


def places(chance):
    """Right lines, the words that may come behind them, and the names that they tell."""
    counters = chance.choice((["x", "an", "no"], ["x"], [], ["order", "n0", "modx"]))
    locations = chance.choice((["home"], ["home", "so", "x"]))
    told = {"programs": ["first"], "counters": counters, "locations": locations, "steps": [],
            "starts": [], "ended": [], "goal": None, "in": []}
    lines = list(OTHER)
    yield lines, ("program",), told
    lines = lines + ["program p"]
    yield lines, ("counters",), told
    lines = lines + ["counters " + " ".join(counters)]
    yield lines, ("locations",), told
    lines = lines + ["locations " + " ".join(locations), "step g : home to home",
                     "step x : home to home"]
    told = dict(told, steps=["g", "x"])
    yield lines, ("step", "start", "goal", "end"), told
    lines = lines + [f"start {name} : home" + " 1" * len(counters) for name in ("y", "an")]
    told = dict(told, starts=["y", "an"])
    yield lines, ("start", "goal", "end"), told
    lines = lines + ["goal no : home 1 = 1", "goal g : home 1 = 1"]
    told = dict(told, ended=["no"], goal="g", **{"in": ["home"]})
    yield lines, ("goal", "end"), told


def column_of(text, line):
    """The wrong column of the last line of a text, None if nothing but an end is missing."""
    try:
        spoken_of(text)
    except BadLine as wrong:
        if (wrong.line, wrong.column) != (line + 1, 1):
            return wrong.column if wrong.line == line else wrong
    return None


if __name__ == "__main__":
    unittest.main()
