"""[6]: texts of formulas there and back, and where they are wrong."""

import random
import unittest

from numberwall.errors import BadText
from numberwall.texts import formula_of, formula_text
from formulas_by_chance import chance_formula
from raising import Raising

NAMES = ("x", "y")
X, Y, ZERO = (0, ((0, 1),)), (0, ((1, 1),)), (0, ())
A, B, C = ("equal", X, ZERO), ("less", X, Y), ("like", 3, Y, (2, ()))
A_TEXT, B_TEXT, C_TEXT = "x = 0", "x < y", "y = 2 mod 3"


class FormulaTexts(unittest.TestCase):
    def both_ways(self, formula, text, names=NAMES):
        self.assertEqual(formula_text(formula, names), text)
        self.assertEqual(formula_text(formula, list(names)), text)
        self.assertEqual(formula_of(text, names), formula)
        self.assertEqual(formula_of(text, list(names)), formula)

    def test_sums(self):
        for one, text in ((ZERO, "0"), ((7, ()), "7"), ((99, ()), "99"), (X, "x"),
                          ((0, ((0, 2),)), "2 x"), ((1, ((1, 1),)), "y + 1"),
                          ((10, ((0, 1), (1, 99))), "x + 99 y + 10")):
            self.both_ways(("equal", one, Y), f"{text} = y")
            self.both_ways(("less", X, one), f"x < {text}")
            self.both_ways(("like", 1, one, one), f"{text} = {text} mod 1")

    def test_comparisons(self):
        for formula, text in ((A, A_TEXT), (B, B_TEXT), (C, C_TEXT)):
            self.both_ways(formula, text)
        self.both_ways(("less", (1, ()), (2, ())), "1 < 2", ())

    def test_brackets_only_where_needed(self):
        for formula, text in (
                (("or", A, B), "{a} or {b}"),
                (("and", A, B), "{a} and {b}"),
                (("or", ("or", A, B), C), "{a} or {b} or {c}"),
                (("or", A, ("or", B, C)), "{a} or ({b} or {c})"),
                (("and", ("and", A, B), C), "{a} and {b} and {c}"),
                (("and", A, ("and", B, C)), "{a} and ({b} and {c})"),
                (("or", ("and", A, B), C), "{a} and {b} or {c}"),
                (("or", A, ("and", B, C)), "{a} or {b} and {c}"),
                (("and", ("or", A, B), C), "({a} or {b}) and {c}"),
                (("and", A, ("or", B, C)), "{a} and ({b} or {c})"),
                (("not", A), "not {a}"),
                (("not", ("not", A)), "not not {a}"),
                (("and", ("not", A), ("not", B)), "not {a} and not {b}"),
                (("or", ("not", A), ("not", B)), "not {a} or not {b}"),
                (("not", ("and", A, B)), "not ({a} and {b})"),
                (("not", ("or", A, B)), "not ({a} or {b})"),
                (("not", ("not", ("or", A, ("not", B)))), "not not ({a} or not {b})"),
                (("and", A, ("and", ("or", B, C), A)), "{a} and (({b} or {c}) and {a})"),
                (("or", ("or", A, ("or", B, ("or", C, A))), B),
                 "{a} or ({b} or ({c} or {a})) or {b}")):
            self.both_ways(formula, text.format(a=A_TEXT, b=B_TEXT, c=C_TEXT))

    def test_some(self):
        z = (0, ((2, 1),))
        self.both_ways(("some", ("equal", X, z)), "some n0 (x = n0)")
        self.both_ways(("not", ("some", ("or", A, ("less", z, Y)))),
                       "not some n0 (x = 0 or n0 < y)")
        self.both_ways(("and", ("some", A), ("some", ("equal", z, z))),
                       "some n0 (x = 0) and some n0 (n0 = n0)")
        self.both_ways(("or", ("some", ("or", A, B)), C), "some n0 (x = 0 or x < y) or " + C_TEXT)
        self.both_ways(("some", ("and", ("some", ("less", (1, ((2, 2), (3, 3))), X)), A)),
                       "some n0 (some n1 (2 n0 + 3 n1 + 1 < x) and x = 0)")
        self.both_ways(("some", ("some", ("some", ("equal", (0, ((0, 1), (1, 2), (2, 3))), ZERO)))),
                       "some n0 (some n1 (some n2 (n0 + 2 n1 + 3 n2 = 0)))", ())

    def test_names_that_are_taken(self):
        one = ("some", ("some", ("equal", (0, ((0, 1), (1, 1), (2, 1))), (0, ((3, 1),)))))
        self.both_ways(one, "some n2 (some n3 (n0 + n1 + n2 = n3))", ("n0", "n1"))
        self.both_ways(one, "some n0 (some n2 (n1 + a + n0 = n2))", ("n1", "a"))
        self.both_ways(one, "some n0 (some n1 (n3 + n2 + n0 = n1))", ("n3", "n2"))
        self.both_ways(("some", ("equal", (0, ((0, 1),)), ZERO)), "some n0 (n00 = 0)", ("n00",))

    def test_many_by_chance(self):
        chance = random.Random(11)
        for _ in range(600):
            names = chance.choice(((), ("x",), ("n0", "y"), ("order", "n1", "mode")))
            formula = chance_formula(chance, len(names), chance.randrange(6))
            text = formula_text(formula, names)
            self.assertEqual(formula_of(text, names), formula)
            self.assertEqual(formula_text(formula_of(f"  {text} ", names), names), text)

    def test_twenty_brackets_are_written_and_read(self):
        formula = A
        for _ in range(18):
            formula = ("and", B, formula)
        for _ in range(3):
            formula = ("some", formula)
        text = formula_text(formula, NAMES)
        self.assertEqual(text.count("("), 20)
        self.assertEqual(formula_of(text, NAMES), formula)


class LooselyWritten(unittest.TestCase):
    def same(self, text, right, names=NAMES):
        self.assertEqual(formula_text(formula_of(text, names), names), right)

    def test_signs(self):
        self.assertEqual(formula_of("x > 2 y", NAMES), ("less", (0, ((1, 2),)), X))
        self.assertEqual(formula_of("x <= 2 y", NAMES), ("less", X, (1, ((1, 2),))))
        self.assertEqual(formula_of("x >= 2 y", NAMES), ("less", (0, ((1, 2),)), (1, ((0, 1),))))
        self.assertEqual(formula_of("x <= 99", NAMES), ("less", X, (100, ())))
        self.assertEqual(formula_of("99 + y >= 0", NAMES), ("less", ZERO, (100, ((1, 1),))))

    def test_sums_are_added_up(self):
        self.same("y + 3 + 2 x + 4 + x = 0 y", "3 x + y + 7 = 0")
        self.same("1 x = 0 x + 0", "x = 0")
        self.assertEqual(formula_of("99 + 99 x + 99 + x = 0", NAMES),
                         ("equal", (198, ((0, 100),)), ZERO))

    def test_spaces_and_brackets(self):
        for text in ("x=0 or x<y and y=2 mod 3", "(x = 0)or(x<y and(y=2 mod 3))",
                     "   x  =  0  or  (  (  x  <  y  )  )  and  y  =  2  mod  3  "):
            self.same(text, "x = 0 or x < y and y = 2 mod 3")
        self.same("not(x=0)", "not x = 0")
        self.same("x=1+y+1", "x = y + 2")

    def test_names_behind_some(self):
        self.same("some q(q=x)", "some n0 (n0 = x)")
        self.same("some y2 (some a (a = y2)) and some a (a = x)",
                  "some n0 (some n1 (n1 = n0)) and some n0 (n0 = x)")
        self.same("some b (b = 1 or some a (a = b)) and x = 2",
                  "some n0 (n0 = 1 or some n1 (n1 = n0)) and x = 2")

    def test_numbers_ahead_of_words(self):
        self.same("x = 3 and y = 4 or 2 < 1", "x = 3 and y = 4 or 2 < 1")
        self.same("x = 3 mod 4 and x = 3 order", "x = 3 mod 4 and x = 3 order", ("x", "order"))

    def test_long_rows_of_words(self):
        for text in ("not " * 900 + "x = 0", " or ".join(["x = 0"] * 450),
                     " and ".join(["x < y"] * 400), "+".join(["x"] * 1900) + "=1"):
            formula = formula_of(text, NAMES)
            self.assertEqual(formula_text(formula, NAMES).split(),
                             text.split() if "+" not in text else "1900 x = 1".split())


class WrongFormulas(Raising):
    def wrong_at(self, *rows, names=NAMES):
        """Each row, without the sign ^ in it, is wrong at that sign."""
        for row in rows:
            self.wrong(BadText, {"column": row.index("^") + 1}, formula_of, row.replace("^", ""), names)

    def test_no_strings(self):
        for value in (None, 7, True, b"x = 0", ["x = 0"], ("not", A)):
            self.wrong(BadText, {"column": 0}, formula_of, value, NAMES)

    def test_cut_off(self):
        for text in ("x = 0 or not (x + 2 y <= 13 and 2 = y mod 12)",
                     "some q (some r (2 q < r + 10 or (y > 2 r)) and q = 1)"):
            for length, sign in enumerate(text):
                # A sign that no text has is wrong where nothing is cut in two by it.
                if length == 0 or sign == " " or text[length - 1] in " =<>+()":
                    self.wrong_at(text[:length] + "^$", text[:length] + "^$" + text[length:])
        self.wrong_at("^", "   ^", "x^", "x ^", "x =^", "x = ^", "not^", "not ^", "x = y a^",
                      "x = y an^", "x = y and^", "x = 1 and^", "x = y o^", "x = 1 or ^", "(^",
                      "(x = 1^", "some^", "some ^", "some q^", "some q (^", "x +^", "x = y mo^",
                      "x = y mod^", "x = y mod ^", "3^", "3 ^", "x <^", "x < ^")

    def test_unknown_names(self):
        self.wrong_at("^z = 0", "x = ^z", "x + 2 ^z = 0", "x = 3 ^a", "x = 3 ^mo", "^no", "^n",
                      "^som x = 0", "^xx = 0", "x = 2 ^andy", "some q (q = 0) or ^q = 1",
                      "some q (some r (r = q) and ^r = 1)", "some q (q = 0 and ^z = 1)")
        self.wrong_at("^x = 0", "some n0 (n0 = ^n1)", names=())

    def test_names_told_already(self):
        self.wrong_at("some ^x (x = 0)", "some q (x = 0 or some ^q (q = 1))",
                      "some q (some ^y (x = 0))", "some q (some r (some ^q (q = 0)))")

    def test_what_is_no_name(self):
        self.wrong_at("and^ = 0", "x = or^", "some mod^ (x = 0)", "x + step^ = 0", "^X = 0",
                      "^_x = 0", "some ^_q (x = 0)", "some ^1 (x = 0)", "abcdefghijkl^m = 0",
                      "x = neverneverne^ver", "mod^ = 1", "x = 3 not^", "x < 3 mod^ 2", "3 and^ = 0")

    def test_words_that_may_not_stand(self):
        self.wrong_at("x = y ^not", "x < y ^mod 2", "x = y mod 2 ^mod 3", "x ^y = 0", "x ^and y",
                      "x = y and^y = 0", "x = y or^e", "x = y mod^e", "not^= 0", "^notx = 0",
                      "not and^", "(x = 0) ^x", "x = 0^) and", "(x = y ^x", "(x = 0 x^",
                      "x = 0 ^= 0", "x = y ^x", "(x = 0) a^", "(x = 0) o^x", "(x = 0) ^mod 2")

    def test_numbers(self):
        self.wrong_at("x = 10^0", "x = 0^0", "x = 0^7", "x = 1^x", "x = 1^_", "x = y mod ^0",
                      "x = y mod ^05", "x = y mod 10^0", "x = y mod ^x", "x = 1 ^2", "x ^3 = 0",
                      "x = 2^and y = 0", "x = ^-1", "x = 12 y ^= 1", "x = 1^.5", "x = y mod 3 ^4")

    def test_signs(self):
        self.wrong_at("x =^= 0", "x < ^= 0", "x =^> 0", "x <^> 0", "x =^< 0", "x ^!= 0", "x +^+ 0",
                      "^+ x = 0", "x = ^+ 1", "x ^- y = 0", "x^, y = 0", "x^\t= 0", "x = 0^\n",
                      "x ^: 0", "x = y + ^", "x <=^= y", "x = y^=")

    def test_brackets(self):
        self.wrong_at("^)", "x = 0^)", "(x = 0)^)", "(^)", "(x^) = 0", "some q ^x = 0",
                      "some ^(x = 0)", "x = ^(y)", "some q^) ")

    def test_most_brackets(self):
        self.assertEqual(formula_of("(" * 20 + "x = 0" + ")" * 20, NAMES), A)
        self.wrong_at("(" * 20 + "^(x = 0" + ")" * 21, "(" * 20 + "^" + "(" * 10, "( " * 20 + "^( ",
                      "(" * 20 + "some q ^(", "(" * 20 + "not ^(")
        self.assertEqual(formula_of("(" * 19 + "some q (x = 0" + ")" * 20, NAMES), ("some", A))
        one = "(x = 0) and "
        self.assertEqual(formula_text(formula_of(one * 30 + "x = 0", NAMES), NAMES),
                         "x = 0 and " * 30 + "x = 0")


if __name__ == "__main__":
    unittest.main()
