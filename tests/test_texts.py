"""[3], [4], [5]: spoken programs, their texts there and back, and texts written loosely."""

import random
import unittest

from numberwall.programs import Program
from numberwall.texts import Spoken, spoken_of, text_of
from formulas_by_chance import chance_formula

DOOR = Spoken(
    "door",
    Program(2, 2, ((0, (2, 0), (0, 1), 1), (1, (0, 1), (0, 0), 0), (1, (0, 0), (3, 12), 1),
                   (0, (0, 0), (0, 0), 0))),
    ("inside", "outside"), ("shut", "wide"), ("unlock", "lock", "pay", "wait"),
    (("begin", (0, (3, 0))), ("late", (1, (0, 99)))),
    (("bad", (None, ("less", (0, ((0, 1),)), (0, ((1, 1),))))),
     ("both", (("equal", (0, ((0, 1),)), (1, ())), ("like", 2, (0, ((0, 3),)), (0, ()))))))
DOOR_TEXT = """program door
  counters inside outside
  locations shut wide
  step unlock : shut to wide takes 2 inside gives outside
  step lock : wide to shut takes outside
  step pay : wide to wide gives 3 inside, 12 outside
  step wait : shut to shut
  start begin : shut 3 0
  start late : wide 0 99
  goal bad : wide inside < outside
  goal both : shut inside = 1
  goal both : wide 3 inside = 0 mod 2
end
"""
BARE = Spoken("p", Program(0, 1, ()), (), ("a",), (), (), ())
BARE_TEXT = "program p\n  counters\n  locations a\nend\n"


class SpokenPrograms(unittest.TestCase):
    def test_fields_in_order(self):
        fields = ("name", "program", "counters", "locations", "steps", "starts", "goals")
        values = tuple(object() for _ in fields)
        spoken = Spoken(*values)
        for field, value in zip(fields, values):
            self.assertIs(getattr(spoken, field), value)
        again = Spoken(**dict(zip(fields, values)))
        self.assertTrue(spoken == again)

    def test_lists_become_tuples_at_every_depth(self):
        program = Program(1, 1, ())
        formula = ("equal", (0, ()), (0, ()))
        counters, goals = ["x"], [["g", [formula]], ("h", [[[]], None])]
        spoken = Spoken("p", program, counters, ["a"], [], [["s", (0, [1])]], goals)
        self.assertEqual(spoken.counters, ("x",))
        self.assertEqual(spoken.locations, ("a",))
        self.assertEqual(spoken.steps, ())
        self.assertEqual(spoken.starts, (("s", (0, (1,))),))
        self.assertEqual(spoken.goals, (("g", (formula,)), ("h", (((),), None))))
        self.assertIs(spoken.program, program)
        self.assertEqual((counters, goals), (["x"], [["g", [formula]], ("h", [[[]], None])]))

    def test_looks_at_nothing(self):
        spoken = Spoken(1, None, {}, True, (), "text", ())
        self.assertEqual(spoken.name, 1)
        self.assertEqual(spoken.counters, {})

    def test_equal_if_all_fields_are(self):
        fields = ["p", Program(1, 1, ()), ("x",), ("a",), (), (("s", (0, (1,))),), ()]
        one = Spoken(*fields)
        self.assertTrue(one == Spoken("p", Program(1, 1, []), ["x"], ["a"], [],
                                      [["s", (0, (1,))]], []))
        self.assertFalse(one != Spoken(*fields))
        others = ["q", Program(1, 2, ()), ("y",), ("b",), ("t",), (), (("g", (None,)),)]
        for index, other in enumerate(others):
            changed = fields[:index] + [other] + fields[index + 1:]
            self.assertFalse(one == Spoken(*changed))
            self.assertTrue(one != Spoken(*changed))
        self.assertFalse(one == tuple(fields))
        self.assertFalse(one == fields[1])

    def test_deep_formulas_are_kept(self):
        formula = ("equal", (0, ()), (0, ()))
        for _ in range(400):
            formula = ("not", formula)
        spoken = Spoken("p", Program(0, 1, ()), [], ["a"], [], [], [["g", [formula]]])
        self.assertEqual(spoken.goals, (("g", (formula,)),))


class ThereAndBack(unittest.TestCase):
    def test_word_for_word(self):
        self.assertEqual(text_of(DOOR), DOOR_TEXT)
        self.assertEqual(text_of(BARE), BARE_TEXT)

    def test_back(self):
        self.assertEqual(spoken_of(DOOR_TEXT), (DOOR,))
        self.assertEqual(spoken_of(BARE_TEXT), (BARE,))
        self.assertEqual(spoken_of(DOOR_TEXT + BARE_TEXT), (DOOR, BARE))
        self.assertEqual(spoken_of(BARE_TEXT + DOOR_TEXT), (BARE, DOOR))

    def test_nothing_told(self):
        for text in ("", "\n", "   ", "\n  \n\n", " \n"):
            self.assertEqual(spoken_of(text), ())

    def test_what_is_told_are_tuples(self):
        spoken, = spoken_of(DOOR_TEXT)
        self.assertEqual(only_tuples((spoken.counters, spoken.locations, spoken.steps,
                                      spoken.starts, spoken.goals, spoken.program.steps)), True)
        self.assertIs(type(spoken_of(DOOR_TEXT)), tuple)

    def test_goals_over_no_counters_and_goals_in_order(self):
        true, false = ("equal", (0, ()), (0, ())), ("less", (0, ()), (0, ()))
        spoken = Spoken("p", Program(0, 3, ()), (), ("a", "b", "c"), (), (("s", (2, ())),),
                        (("h", (None, true, None)), ("g", (true, None, false))))
        text = ("program p\n  counters\n  locations a b c\n  start s : c\n  goal h : b 0 = 0\n"
                "  goal g : a 0 = 0\n  goal g : c 0 < 0\nend\n")
        self.assertEqual(text_of(spoken), text)
        self.assertEqual(spoken_of(text), (spoken,))

    def test_like_names_in_unlike_rows(self):
        text = ("program x\n  counters x y\n  locations x y\n  step x : x to y takes x gives x\n"
                "  step y : y to y\n  start x : x 1 2\n  goal x : x x = y\n  goal x : y x < y\n"
                "end\n")
        spoken, = spoken_of(text)
        self.assertEqual(spoken.program.steps, ((0, (1, 0), (1, 0), 1), (1, (0, 0), (0, 0), 1)))
        self.assertEqual(text_of(spoken), text)

    def test_names_that_begin_like_words(self):
        text = ("program programs\n  counters takesx order nota mode anda some_\n"
                "  locations too loc tox\n  step s : too to tox takes takesx gives 2 order, mode\n"
                "  goal g : loc nota = 3 order + mode and 2 anda < 3 mode or some_ = nota mod 7\n"
                "end\n")
        spoken, = spoken_of(text)
        self.assertEqual(spoken.counters, ("takesx", "order", "nota", "mode", "anda", "some_"))
        self.assertEqual(text_of(spoken), text)

    def test_longest_names_and_greatest_numbers(self):
        text = ("program abcdefghijkl\n  counters a_9999999999\n  locations z\n"
                "  step s : z to z takes 99 a_9999999999\n  start s : z 99\n"
                "  goal g : z 99 a_9999999999 + 99 = 10 mod 99\nend\n")
        spoken, = spoken_of(text)
        self.assertEqual(text_of(spoken), text)
        self.assertEqual(spoken.goals, (
            ("g", (("like", 99, (99, ((0, 99),)), (10, ())),)),))

    def test_many_by_chance(self):
        chance = random.Random(5)
        for _ in range(300):
            spoken = chance_spoken(chance)
            self.assertEqual(spoken_of(text_of(spoken)), (spoken,))
            self.assertEqual(text_of(spoken_of(text_of(spoken))[0]), text_of(spoken))


class LooselyWritten(unittest.TestCase):
    def same(self, text):
        told, = spoken_of(text)
        self.assertEqual(text_of(told), DOOR_TEXT)
        self.assertEqual(told, DOOR)

    def test_no_line_end_at_the_end(self):
        self.same(DOOR_TEXT[:-1])

    def test_empty_lines(self):
        self.same("\n" + DOOR_TEXT.replace("\n", "\n\n   \n"))

    def test_spaces(self):
        self.same(DOOR_TEXT.replace(" ", "   ").replace("\n", "  \n"))
        self.same("  " + DOOR_TEXT.replace("\n  ", "\n").replace("end", "      end "))
        self.same(DOOR_TEXT.replace(" : ", ":").replace(" = ", "=").replace(" < ", "<")
                  .replace(", ", ","))
        self.same(DOOR_TEXT.replace(", ", " , ").replace(",", " ,  "))

    def test_one_written_out(self):
        self.same(DOOR_TEXT.replace("gives outside", "gives 1 outside")
                  .replace("inside <", "1 inside <"))

    def test_items_in_another_order(self):
        self.same(DOOR_TEXT.replace("3 inside, 12 outside", "12 outside, 3 inside"))

    def test_other_signs_and_sums(self):
        self.same(DOOR_TEXT.replace("inside < outside", "outside > inside"))
        self.same(DOOR_TEXT.replace("3 inside =", "inside + 0 outside + 0 + 2 inside ="))

    def test_goals_with_locations_in_another_order(self):
        lines = DOOR_TEXT.split("\n")
        lines[10], lines[11] = lines[11], lines[10]
        self.same("\n".join(lines))

    def test_brackets_without_need(self):
        self.same(DOOR_TEXT.replace("inside < outside", "((inside<outside ))")
                  .replace("wide ((", "wide(("))


def only_tuples(value):
    if isinstance(value, tuple):
        return all(only_tuples(item) for item in value)
    return not isinstance(value, (list, set, dict))


def chance_spoken(chance):
    def names(least, most):
        signs = "abyz019_"
        found = set()
        many = chance.randrange(least, most)
        while len(found) < many:
            found.add(chance.choice("anx") + "".join(chance.choice(signs) for _ in
                                                     range(chance.randrange(12))))
        return tuple(chance.sample(sorted(found), many))

    def row(choices):
        return tuple(chance.choice(choices) for _ in counters)

    counters, locations, steps = names(0, 4), names(1, 4), names(0, 5)
    rows = [(chance.randrange(len(locations)), row((0, 1, 2, 99)), row((0, 0, 1, 10)),
             chance.randrange(len(locations))) for _ in steps]
    starts = [(name, (chance.randrange(len(locations)), row((0, 1, 42, 99))))
              for name in names(0, 3)]
    goals = []
    for name in names(0, 3):
        formulas = [chance.choice((None, chance_formula(chance, len(counters), 3)))
                    for _ in locations]
        formulas[chance.randrange(len(locations))] = chance_formula(chance, len(counters), 3)
        goals.append((name, formulas))
    program = Program(len(counters), len(locations), rows)
    return Spoken(names(1, 2)[0], program, counters, locations, steps, starts, goals)


if __name__ == "__main__":
    unittest.main()
