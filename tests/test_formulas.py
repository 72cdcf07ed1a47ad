"""[20] to [23]: formulas, their worths, their lots, least cases and witnesses."""

import itertools
import random

from numberwall.errors import BadFormula, BadNumber
from numberwall.formulas import holds, is_formula, least_case, lot_of, witness, worth
from numberwall.lots import Lot, all_in, all_of, is_in, just_these, least_in, none_of
from numberwall.texts import formula_of
from raising import Raising
from slow_formulas import slow_holds, small_formula
from slow_lots import order_of, rows, slow_in, slow_least

NO_NATURALS = (True, False, None, "1", 1.0, -1, [1], (1,))
NOTHING = (0, ())
X, Y, Z = [(0, ((variable, 1),)) for variable in range(3)]
TWICE_Y = (0, ((1, 2),))
SOME_HALF = ("some", ("equal", X, TWICE_Y))
LESS = ("less", X, Y)
# At all words: v is the number of variables a formula needs.
RIGHT = (
    (0, ("equal", NOTHING, (7, ()))), (0, ("less", (30, ()), NOTHING)),
    (1, ("like", 1, X, NOTHING)), (1, ("like", 12, (3, ((0, 5),)), X)),
    (2, LESS), (3, ("equal", (2, ((0, 1), (1, 5), (2, 2))), (0, ((0, 3), (2, 1))))),
    (2, ("not", LESS)), (2, ("and", LESS, ("not", LESS))), (2, ("or", LESS, LESS)),
    (1, SOME_HALF), (0, ("some", ("some", LESS))),
    (1, ("some", ("some", ("less", X, (0, ((1, 1), (2, 1))))))),
    (1, ("and", ("some", LESS), ("some", ("some", ("equal", Y, Z))))),
)


class Kinds(Raising):
    def test_right_ones(self):
        for variables, formula in RIGHT:
            for more in range(3):
                self.assertIs(is_formula(variables + more, formula), True, formula)

    def test_too_few_variables(self):
        for variables, formula in RIGHT:
            if variables > 0:
                self.assertIs(is_formula(variables - 1, formula), False, formula)
        # The variable of a "some" is the next one, and it is none outside of it.
        self.assertIs(is_formula(0, ("some", ("some", ("equal", X, Y)))), True)
        self.assertIs(is_formula(0, ("some", ("some", ("equal", X, Z)))), False)
        self.assertIs(is_formula(1, ("and", ("some", LESS), LESS)), False)

    def test_sums_with_one_thing_wrong(self):
        for one in (None, 5, (), (0,), (0, (), ()), [0, ()], (0, []), (-1, ()), (True, ()),
                    ("0", ()), (0.0, ()), (None, ()), (0, None), (0, 0), (0, "ab"), ((), 0),
                    (0, ((0,),)), (0, ((0, 1, 1),)), (0, ([0, 1],)), (0, (0, 1)), (0, ((0, 0),)),
                    (0, ((0, -1),)), (0, ((0, True),)), (0, ((False, 1),)), (0, ((-1, 1),)),
                    (0, ((2, 1),)), (0, ((0, 1.0),)), (0, ((None, 1),)), (0, ((0, None),)),
                    (0, ((1, 1), (0, 1))), (0, ((0, 1), (0, 1))), (0, {}), (0, {(0, 1)})):
            for formula in (("equal", one, X), ("less", X, one), ("like", 3, one, X),
                            ("like", 3, X, one)):
                self.assertIs(is_formula(2, formula), False, formula)
                self.assertIs(is_formula(2, ("not", formula)), False, formula)

    def test_formulas_with_one_thing_wrong(self):
        for formula in (None, 0, True, "equal", (), ("equal",), ("equal", X), ("less", X, Y, X),
                        ["less", X, Y], ("like", 2, X), ("like", 0, X, Y), ("like", -1, X, Y),
                        ("like", True, X, Y), ("like", "2", X, Y), ("like", 2.0, X, Y),
                        ("like", None, X, Y), ("like", X, Y), ("like", 2, X, Y, X), ("not",),
                        ("not", LESS, LESS), ("and", LESS), ("or", LESS), ("and", LESS, LESS, LESS),
                        ("some",), ("some", LESS, LESS), ("nor", LESS), ("Equal", X, Y), (X, Y),
                        (0, X, Y), (None, X, Y), (True, X, Y), (("less",), X, Y), ("true",),
                        ("less", Y), ("some", X), {"less": 1}, ([], X, Y), ("equals", X, Y)):
            self.assertIs(is_formula(2, formula), False, formula)
            for around in (("not", formula), ("and", LESS, formula), ("or", formula, LESS),
                           ("some", formula)):
                self.assertIs(is_formula(2, around), False, around)

    def test_lists_are_none(self):
        for _, formula in RIGHT:
            for changed in with_one_list(formula):
                self.assertIs(is_formula(3, changed), False, changed)

    def test_any_depth(self):
        formula = LESS
        for _ in range(5000):
            formula = ("not", formula)
        self.assertIs(is_formula(2, formula), True)
        self.assertIs(is_formula(1, formula), False)

    def test_wrong_variables(self):
        for variables in NO_NATURALS:
            fields = {"what": "variables", "number": variables}
            self.wrong(BadNumber, fields, is_formula, variables, None)


def with_one_list(value):
    """All that come of a value when one tuple in it is made a list."""
    if isinstance(value, tuple):
        yield list(value)
        for place, part in enumerate(value):
            for changed in with_one_list(part):
                yield (*value[:place], changed, *value[place + 1:])


class Worths(Raising):
    def test_worth(self):
        self.assertEqual(worth(NOTHING, ()), 0)
        self.assertEqual(worth((7, ()), (1, 2)), 7)
        self.assertEqual(worth((3, ((0, 2), (2, 5))), (10, 99, 10 ** 7)), 23 + 5 * 10 ** 7)
        self.assertEqual(worth(Y, [4, 6]), 6)

    def test_holds(self):
        self.assertIs(holds(LESS, (3, 4)), True)
        self.assertIs(holds(LESS, [4, 4]), False)
        self.assertIs(holds(("equal", X, TWICE_Y), (10000, 5000)), True)
        self.assertIs(holds(("equal", X, TWICE_Y), (10000, 5001)), False)
        self.assertIs(holds(("like", 5, X, Y), (3, 8)), True)
        self.assertIs(holds(("like", 5, X, Y), (8, 3)), True)
        self.assertIs(holds(("like", 5, X, Y), (8, 4)), False)
        self.assertIs(holds(("like", 1, X, Y), (8, 4)), True)
        self.assertIs(holds(("less", NOTHING, (1, ())), ()), True)
        for one, other in itertools.product((True, False), repeat=2):
            parts = [("equal", NOTHING, (0 if truth else 1, ())) for truth in (one, other)]
            self.assertIs(holds(("and", *parts), ()), one and other)
            self.assertIs(holds(("or", *parts), ()), one or other)
            self.assertIs(holds(("not", parts[0]), ()), not one)

    def test_holds_of_drawn_formulas(self):
        chance = random.Random(2)
        for _ in range(200):
            variables = chance.randrange(4)
            formula = small_formula(chance, variables, chance.randrange(4), 0)
            x = tuple(chance.choice((0, 1, 2, 5, 10000)) for _ in range(variables))
            self.assertIs(holds(formula, x), slow_holds(formula, x, 0))

    def test_holds_refuses(self):
        for formula, x in ((LESS, (1,)), (LESS, ()), (["less", X, Y], (1, 2)), (None, (1,)),
                           (SOME_HALF, (4,)), (("not", SOME_HALF), (4,)), (SOME_HALF, ()),
                           (("and", ("less", X, (1, ())), ("or", ("less", X, X), SOME_HALF)), (0,)),
                           (("like", True, X, X), (1,)), ("less", (1, 2)), ((), ())):
            self.wrong(BadFormula, {"formula": formula}, holds, formula, x)


class LotsOf(Raising):
    def test_the_documents_examples(self):
        self.assertEqual(lot_of(2, (("equal", (0, ((0, 1),)), (0, ((1, 1),))),)),
                         Lot(2, ((0, 1, 1, 0), (1, 1, 1, 1)), (True, False), (0,)))
        self.assertEqual(lot_of(2, (("less", (0, ((0, 1),)), (1, ((1, 1),))),)),
                         Lot(2, ((0, 1, 0, 0), (1, 1, 0, 1)), (True, False), (0,)))
        halves = lot_of(1, (("some", ("equal", (0, ((0, 1),)), (0, ((1, 2),)))),))
        self.assertEqual(halves, lot_of(1, (("like", 2, (0, ((0, 1),)), (0, ())),)))
        self.assertEqual(halves, Lot(1, ((1, 2), (1, 1), (2, 2)), (True, True, False), (0,)))
        self.assertEqual(witness(("some", ("equal", (0, ((0, 1),)), (0, ((1, 2),)))), (6,)), 3)
        self.assertIsNone(witness(("some", ("equal", (0, ((0, 1),)), (0, ((1, 2),)))), (7,)))
        self.assertEqual(least_case(2, ("less", (3, ((0, 1),)), (0, ((1, 1),)))), (0, 4))

    def is_lot_of(self, counters, formulas, bits, most=9):
        lot = lot_of(counters, formulas)
        self.assertEqual((lot.counters, len(lot.begins)), (counters, len(formulas)))
        self.assertEqual(lot, slow_least(lot))
        for location, formula in enumerate(formulas):
            for x in rows(counters, bits):
                self.assertIs(slow_in(lot, (location, x)), slow_holds(formula, x, most),
                              (formula, x))

    def test_equal_and_less_with_coefficients_on_both_sides(self):
        chance = random.Random(6)
        for _ in range(60):
            counters = chance.randrange(4)
            one, other = [(chance.randrange(31), tuple(
                (variable, chance.randrange(1, 6)) for variable in range(counters)
                if chance.random() < 0.7)) for _ in range(2)]
            self.is_lot_of(counters, (("equal", one, other),), (6, 6, 4, 3)[counters])
            self.is_lot_of(counters, [("less", one, other)], (6, 6, 4, 3)[counters])

    def test_like_for_odd_even_and_mixed_moduli(self):
        chance = random.Random(7)
        for n in (*range(1, 13), 24, 45):
            for counters in range(3):
                one, other = [(chance.randrange(31), tuple(
                    (variable, chance.randrange(1, 6)) for variable in range(counters)
                    if chance.random() < 0.7)) for _ in range(2)]
                self.is_lot_of(counters, (("like", n, one, other),), 4)

    def test_multiples_of_twelve_are_few_states(self):
        # Two columns part the multiples of 4, then three remainders are left, and none.
        lot = lot_of(1, (("like", 12, X, NOTHING),))
        self.assertEqual(all_in(lot, 6), tuple((0, (x,)) for x in range(0, 64, 12)))
        self.assertEqual(len(lot.moves), 6)

    def test_drawn_formulas(self):
        chance = random.Random(9)
        for _ in range(120):
            counters = chance.randrange(4)
            formulas = [small_formula(chance, counters, chance.randrange(4), 0)
                        for _ in range(chance.randrange(1, 4))]
            self.is_lot_of(counters, formulas, (4, 4, 3, 2)[counters])

    def test_drawn_formulas_with_some(self):
        chance = random.Random(10)
        for _ in range(80):
            counters = chance.randrange(3)
            formula = small_formula(chance, counters, chance.randrange(1, 4), 2)
            self.is_lot_of(counters, (formula,), (3, 3, 2)[counters])

    def test_some_within_some(self):
        # x is 2 y + 3 z for some y and z: all numbers but 1.
        both = ("some", ("some", ("equal", X, (0, ((1, 2), (2, 3))))))
        but_one = lot_of(1, (("not", ("equal", X, (1, ()))),))
        self.assertEqual(lot_of(1, (both,)), but_one)
        # There is a number y that each z is less than: there is none.
        self.assertEqual(lot_of(0, (("some", ("not", ("some", ("not", ("less", Y, X))))),)),
                         none_of(0, 1))
        # For each x there is a greater y, and for no y there is not a greater one.
        self.assertEqual(lot_of(1, (("some", LESS),)), all_of(1, 1))
        self.assertEqual(lot_of(1, (("some", ("less", Y, X)),)),
                         lot_of(1, (("less", NOTHING, X),)))

    def test_some_of_several_ways(self):
        # x or y is twice it, or some other number is 5 more than it and like x by 3.
        ways = ("some", ("or", ("equal", X, (0, ((2, 2),))), ("or", ("equal", Y, (0, ((2, 2),))), (
            "some", ("and", ("equal", (0, ((3, 1),)), (5, ((2, 1),))), (
                "and", ("like", 3, X, (0, ((3, 1),))), ("less", (0, ((3, 1),)), (7, ()))))))))
        self.is_lot_of(2, (ways, ("not", ways)), 3)

    def test_some_of_opposites(self):
        bound = ("less", Y, (10, ()))
        one, other = ("less", (0, ((1, 2),)), X), ("like", 3, X, (1, ((1, 2),)))
        shapes = [one, ("not", one), ("and", one, other), ("or", one, other),
                  ("and", ("not", one), other), ("or", one, ("not", other))]
        for shape in shapes:
            self.is_lot_of(1, (("some", ("and", bound, ("not", shape))),), 5)
            self.is_lot_of(1, (("some", ("and", bound, ("not", ("not", shape)))),), 5)
            self.is_lot_of(1, (("some", ("not", ("or", ("not", bound), shape))),), 5)
            self.is_lot_of(1, (("not", ("some", ("and", ("not", shape), bound))),), 5)

    def test_twelve_tuples(self):
        # By sets of the states of the whole this would take very long.
        formula = formula_of("some u (some v (2 x + 3 y + 4 z + 2 v + 1 = z + 5 u + 3 v + 30 mod 3"
                             " or not not 3 z + 2 u + 5 v + 9 < 2 y + 4 u + 2 v + 18"
                             " and y + 3 z + 2 u + v + 15 < 4 z + 5 u + 25"
                             " or not 4 u + 4 v + 6 = 4 x + 2 y + 2 u + 3 v + 30 mod 11))",
                             ("x", "y", "z"))
        self.assertEqual(lot_of(3, (formula,)), all_of(3, 1))

    def test_several_locations(self):
        lot = lot_of(1, [("equal", X, (3, ())), ("less", X, (2, ())), ("not", ("equal", X, X)),
                         ("equal", X, (3, ()))])
        self.assertEqual(lot, just_these(1, 4, ((0, (3,)), (1, (0,)), (1, (1,)), (3, (3,)))))
        self.assertEqual(lot.begins[0], lot.begins[3])

    def test_great_numbers(self):
        lot = lot_of(2, (("less", (30, ((0, 5),)), (0, ((1, 2),))),))
        for x in (0, 1, 10 ** 30):
            self.assertIs(is_in(lot, (0, (2 * x, 15 + 5 * x))), False)
            self.assertIs(is_in(lot, (0, (2 * x, 16 + 5 * x))), True)

    def test_lot_of_errors_in_order(self):
        for counters in NO_NATURALS:
            fields = {"what": "counters", "number": counters}
            self.wrong(BadNumber, fields, lot_of, counters, None)
            self.wrong(BadNumber, fields, least_case, counters, None)
        for formulas in (None, (), [], 0, "less", {}, {LESS}):
            self.wrong(BadFormula, {"formula": formulas}, lot_of, 2, formulas)
        for formula in (None, ["less", X, Y], ("less", X, Z), ("like", 0, X, Y), "less", ()):
            self.wrong(BadFormula, {"formula": formula}, lot_of, 2, (formula,))
            self.wrong(BadFormula, {"formula": formula}, lot_of, 2, [LESS, formula, LESS, 7])
            self.wrong(BadFormula, {"formula": formula}, least_case, 2, formula)
        self.wrong(BadFormula, {"formula": "less"}, lot_of, 2, LESS)


class Cases(Raising):
    def test_least_case(self):
        self.assertIsNone(least_case(2, ("and", LESS, ("less", Y, X))))
        self.assertEqual(least_case(0, ("equal", NOTHING, NOTHING)), ())
        self.assertIsNone(least_case(0, ("less", NOTHING, NOTHING)))
        # The word of 112 begins with four columns 0, that of 100 with two.
        self.assertEqual(least_case(1, ("less", (99, ()), X)), (112,))
        # Shorter words first, then the first column: (3, 2) is ahead of (2, 3), and behind (2, 2).
        self.assertEqual(least_case(2, ("equal", (0, ((0, 1), (1, 1))), (5, ()))), (3, 2))
        self.assertEqual(least_case(2, ("less", (3, ()), (0, ((0, 1), (1, 1))))), (2, 2))

    def test_least_case_of_drawn_formulas(self):
        chance = random.Random(11)
        for _ in range(100):
            counters = chance.randrange(3)
            formula = small_formula(chance, counters, chance.randrange(3), 1)
            told = least_case(counters, formula)
            found = [x for x in rows(counters, 4) if slow_holds(formula, x, 9)]
            if found:
                self.assertEqual(told, min(found, key=lambda x: order_of((0, x))))
            else:
                self.assertEqual(told is None, least_in(lot_of(counters, (formula,))) is None)
                self.assertTrue(told is None or max(told) > 15)

    def test_least_case_says_for_all(self):
        odd_or_even = ("or", ("like", 2, X, NOTHING), ("like", 2, X, (1, ())))
        self.assertIsNone(least_case(1, ("not", odd_or_even)))
        self.assertEqual(least_case(1, ("not", ("like", 2, X, NOTHING))), (1,))

    def test_witness(self):
        greater = ("some", ("less", (4, ((0, 3),)), (0, ((1, 2),))))
        for x in (0, 1, 2, 9999, 10000):
            self.assertEqual(witness(greater, (x,)), (4 + 3 * x) // 2 + 1)
        self.assertEqual(witness(greater, [7]), 13)
        self.assertEqual(witness(("some", ("equal", X, (10, ()))), ()), 10)
        self.assertIsNone(witness(("some", ("less", X, NOTHING)), ()))
        self.assertEqual(witness(("some", ("not", ("equal", Y, NOTHING))), (5,)), 1)
        self.assertEqual(witness(("some", ("equal", X, X)), (10000,)), 0)
        # The least number is not the one with the least first bits: 6 is less than 9.
        self.assertEqual(witness(("some", ("or", ("equal", X, (9, ())), ("equal", X, (6, ())))), ()),
                         6)
        self.assertEqual(witness(("some", ("and", ("like", 12, Y, (7, ())), ("less", X, Y))),
                                 (9990,)), 9991)

    def test_witness_behind_another_some(self):
        # y is like twice some z, and more than x + 2.
        formula = ("some", ("and", ("some", ("equal", Y, (0, ((2, 2),)))),
                            ("less", (2, ((0, 1),)), Y)))
        for x in (0, 1, 6, 7, 9000):
            self.assertEqual(witness(formula, (x,)), x + 3 + (x + 3) % 2)

    def test_witness_of_drawn_formulas(self):
        chance = random.Random(12)
        for _ in range(150):
            variables = chance.randrange(3)
            inner = small_formula(chance, variables + 1, chance.randrange(3), 1)
            x = tuple(chance.randrange(12) for _ in range(variables))
            told = witness(("some", inner), x)
            found = [y for y in range(60) if slow_holds(inner, (*x, y), 9)]
            self.assertEqual(told, found[0] if found else None, (inner, x))

    def test_witness_refuses(self):
        for formula, x in ((LESS, (1, 2)), (SOME_HALF, ()), (["some", LESS], (1,)), (None, ()),
                           (("some",), ()), (("not", SOME_HALF), (1,)), (("some", LESS), ()),
                           (("some", ["less", X, Y]), (1,)), ("some", ())):
            self.wrong(BadFormula, {"formula": formula}, witness, formula, x)


if __name__ == "__main__":
    import unittest

    unittest.main()
