"""[32] to [35]: a run, a wall, or neither."""

import random

from numberwall.errors import BadConfiguration, BadLot, BadNumber, BadReads
from numberwall.lots import Lot, all_of, is_in, just_these, least_in, none_of, spread
from numberwall.programs import Program, behind_run, turned
from numberwall.settling import Neither, Run, Wall, is_settled, settle
from numberwall.trees import leaves_of
from numberwall.walls import is_wall
from drawn_programs import BY_TURNS, ONE, ONE_AND_NONE, TURNS_WALL, TWO_MORE
from drawn_programs import drawn_place, drawn_program, drawn_target
from raising import Raising
from slow_settling import slow_is_settled, slow_layers
from slow_trees import changed
from test_trees import FOUR_LEAVES, TEN_LEAVES, TWO_LEAVES

NO_NATURALS = (True, False, None, "1", 1.0, -1, [1], (1,))
FIRST = (TWO_MORE, (0, (0,)), ONE, (0,))
SECOND = (BY_TURNS, (0, (0, 0)), ONE_AND_NONE, (0, 1))
FOUR = (TWO_MORE, (0, (0,)), just_these(1, 1, ((0, (4,)),)), (0,))
FIRST_LAYERS = (((0, (0,)),), ((0, (2,)),), ((0, (4,)),), ((0, (6,)),))
# Even numbers, none, all; and other walls of the second example.
EVEN_WALL = Lot(1, ((2, 1), (1, 1), (2, 2)), (True, False, True), (0,))
OTHER_WALL = Lot(2, ((0, 1, 2, 2), (1, 1, 2, 2), (2, 2, 2, 2)), (True, False, True), (0, 2))
# How many states, and how many read counters, there may be.
SIZES = ((0, 0), (0, 2), (8, 0), (1, 0), (3, 1), (4, 1), (1, 1), (1, 2), (2, 2), (1, 3))


def drawn_cases(seed, many, sizes=SIZES):
    """Rows of what settle takes, by chance."""
    chance = random.Random(seed)
    for _ in range(many):
        states, read = chance.choice(sizes)
        program = drawn_program(chance, counters=chance.randrange(read, 4))
        reads = tuple(sorted(chance.sample(range(program.counters), read)))
        yield (program, drawn_place(chance, program, chance.choice((2, 6, 100))),
               drawn_target(chance, program), reads, chance.randrange(5), states)


def numbers_of(told):
    """The kind of what is told, and the number that is one: of steps, of states, of none."""
    if isinstance(told, Run):
        return ("run", len(told.steps))
    return ("wall", len(told.lot.moves)) if isinstance(told, Wall) else ("neither", None)


class Kinds(Raising):
    def test_what_they_keep(self):
        run = Run([0, 1], [[(0, (1,))], [[1, [2]]]])
        self.assertEqual((run.steps, run.layers), ((0, 1), (((0, (1,)),), ((1, (2,)),))))
        wall = Wall(EVEN_WALL, ["begins", 0, [["start"]]])
        self.assertIs(wall.lot, EVEN_WALL)
        self.assertEqual(wall.tree, ("begins", 0, (("start",),)))
        neither = Neither([[(0, (1,))]], ["start"])
        self.assertEqual((neither.layers, neither.tree), ((((0, (1,)),),), ("start",)))
        for value in (None, 5, "text", {}, {1: [2]}):
            self.assertEqual(vars(Run(value, value)), {"steps": value, "layers": value})
            self.assertEqual(vars(Wall(value, value)), {"lot": value, "tree": value})
            self.assertEqual(vars(Neither(value, value)), {"layers": value, "tree": value})

    def test_equal_if_of_one_class_with_equal_fields(self):
        for kind in (Run, Wall, Neither):
            self.assertTrue(kind((0,), (1,)) == kind([0], [1]))
            self.assertFalse(kind((0,), (1,)) != kind([0], [1]))
            for other in (kind((0,), (2,)), kind((1,), (1,)), kind((), (1,)), ((0,), (1,)), None):
                self.assertFalse(kind((0,), (1,)) == other)
                self.assertTrue(kind((0,), (1,)) != other)
            for other in (Run, Wall, Neither):
                self.assertIs(kind((0,), (1,)) == other((0,), (1,)), kind is other)
                self.assertIs(issubclass(kind, other), kind is other)
        same = Lot(EVEN_WALL.counters, EVEN_WALL.moves, EVEN_WALL.good, EVEN_WALL.begins)
        self.assertTrue(Wall(EVEN_WALL, FOUR_LEAVES) == Wall(same, FOUR_LEAVES))


class Examples(Raising):
    def test_two_more(self):
        told = settle(*FIRST, 3, 3)
        self.assertEqual(numbers_of(told), ("wall", 3))
        self.assertIs(is_wall(*FIRST[:3], told.lot, (0,)), True)
        self.assertIs(is_settled(*FIRST, 3, 3, told), True)
        self.assertIs(is_settled(*FIRST, 3, 3, Wall(EVEN_WALL, FOUR_LEAVES)), True)
        told = settle(*FIRST, 3, 2)
        self.assertIsInstance(told, Neither)
        self.assertEqual(told.layers, FIRST_LAYERS)
        self.assertIs(is_settled(*FIRST, 3, 2, told), True)
        self.assertIs(is_settled(*FIRST, 3, 2, Neither(FIRST_LAYERS, FOUR_LEAVES)), True)
        self.assertIs(is_settled(*FIRST, 3, 3, Neither(FIRST_LAYERS, FOUR_LEAVES)), False)
        self.assertEqual(settle(*FOUR, 3, 3), Run((0, 0), (((0, (0,)),), ((0, (2,)),))))
        self.assertEqual(settle(*FOUR, 2, 0), Run((0, 0), (((0, (0,)),), ((0, (2,)),))))
        self.assertEqual(numbers_of(settle(*FOUR, 1, 3)), ("neither", None))

    def test_by_turns(self):
        told = settle(*SECOND, 4, 3)
        self.assertEqual(numbers_of(told), ("wall", 3))
        for lot in (told.lot, TURNS_WALL, OTHER_WALL):
            for tree in (told.tree, TEN_LEAVES):
                self.assertIs(is_settled(*SECOND, 4, 3, Wall(lot, tree)), True)
        for states in range(1, 5):
            told = settle(*SECOND[:3], (1,), 4, states)
            self.assertIsInstance(told, Neither)
            self.assertEqual(len(leaves_of(told.tree)), 2)
            other = Neither(told.layers, TWO_LEAVES)
            self.assertIs(is_settled(*SECOND[:3], (1,), 4, states, other), True)

    def test_the_start_is_in_the_target(self):
        for steps in (0, 1, 8):
            for states in (0, 2):
                told = settle(TWO_MORE, (0, (1,)), ONE, (0,), steps, states)
                self.assertEqual(told, Run((), ()))
                self.assertIs(is_settled(TWO_MORE, (0, (1,)), ONE, (0,), steps, states, told), True)
        self.assertEqual(settle(Program(0, 1, ()), (0, ()), all_of(0, 1), (), 0, 0), Run((), ()))

    def test_no_steps_and_no_states(self):
        told = settle(*FIRST, 0, 0)
        self.assertEqual(told, Neither((((0, (0,)),),), ("begins", 0, ())))
        self.assertIs(is_settled(*FIRST, 0, 0, told), True)
        self.assertEqual(settle(*FOUR, 1, 0).layers, (((0, (0,)),), ((0, (2,)),)))
        self.assertEqual(numbers_of(settle(*FIRST, 0, 3)), ("wall", 3))

    def test_layers_up_to_the_first_empty_one(self):
        # 5, 3, 1 and no further.
        program = Program(1, 1, ((0, (2,), (0,), 0),))
        target = just_these(1, 1, ((0, (4,)),))
        layers = (((0, (5,)),), ((0, (3,)),), ((0, (1,)),), ())
        for steps in range(6):
            told = settle(program, (0, (5,)), target, (), steps, 1)
            self.assertEqual(told.layers, layers[:steps + 1])
            self.assertIs(is_settled(program, (0, (5,)), target, (), steps, 1, told), True)
            for many in range(5):
                other = Neither(layers[:many], told.tree)
                truth = many == min(steps + 1, 4)
                self.assertIs(is_settled(program, (0, (5,)), target, (), steps, 1, other), truth)
        longer = Neither(layers + ((),), told.tree)
        self.assertIs(is_settled(program, (0, (5,)), target, (), 8, 1, longer), False)

    def test_a_wall_of_one_state(self):
        told = settle(TWO_MORE, (0, (0,)), none_of(1, 1), (), 2, 1)
        self.assertEqual(told, Wall(all_of(0, 1), ("begins", 0, ())))
        told = settle(TWO_MORE, (0, (0,)), none_of(1, 1), (0,), 2, 3)
        self.assertEqual(told, Wall(all_of(1, 1), ("begins", 0, ())))


class Drawn(Raising):
    def test_just_one_of_the_three(self):
        kinds = {}
        for case in drawn_cases(1, 250):
            program, start, target, reads, steps, states = case
            told = settle(*case)
            self.assertTrue(slow_is_settled(*case, told))
            self.assertIs(is_settled(*case, told), True)
            self.assertEqual(told, settle(program, start, target, list(reads), steps, states))
            kind, number = numbers_of(told)
            kinds[kind] = kinds.get(kind, 0) + 1
            layers = slow_layers(program, start, steps)
            nearest = [i for i, layer in enumerate(layers)
                       if any(is_in(target, place) for place in layer)]
            self.assertEqual(kind == "run", bool(nearest))
            if nearest:
                self.assertEqual(number, nearest[0])
                self.assertIs(is_in(target, behind_run(program, start, told.steps)), True)
        self.assertGreater(min(kinds.values()), 30)

    def test_fact_a_more_steps_and_states(self):
        for case in drawn_cases(2, 120, ((1, 0), (2, 1), (3, 1), (1, 2))):
            told = numbers_of(settle(*case))
            for more in ((1, 0), (0, 1), (2, 1)):
                other = numbers_of(settle(*case[:4], case[4] + more[0], case[5] + more[1]))
                if told[0] == "run" or (told[0] == "wall" and more[0] == 0):
                    self.assertEqual(other, told)
                elif told[0] == "wall":
                    self.assertEqual(other, told)

    def test_fact_b_more_read_counters(self):
        walls = 0
        for case in drawn_cases(3, 150, ((2, 0), (2, 1), (1, 2))):
            program, start, target, reads, steps, states = case
            told = settle(*case)
            if isinstance(told, Wall):
                for more in range(program.counters):
                    if more not in reads:
                        wider = tuple(sorted((*reads, more)))
                        other = settle(program, start, target, wider, steps, states)
                        self.assertIsInstance(other, Wall)
                        self.assertLessEqual(len(other.lot.moves), len(told.lot.moves))
                        walls += 1
        self.assertGreater(walls, 10)

    def test_fact_c_turned_about(self):
        kinds = set()
        chance = random.Random(4)
        for case in drawn_cases(5, 150, ((8, 0), (3, 1), (2, 2), (1, 3))):
            program, start, _, reads, steps, states = case
            goal = drawn_place(chance, program, 4)
            one = (program.counters, program.locations)
            told = settle(program, start, just_these(*one, (goal,)), reads, steps, states)
            back = settle(turned(program), goal, just_these(*one, (start,)), reads, steps, states)
            self.assertEqual(numbers_of(told), numbers_of(back))
            kinds.add(numbers_of(told)[0])
        self.assertEqual(len(kinds), 3)

    def test_fact_d_out_of_the_target_and_in_the_wall(self):
        for case in drawn_cases(6, 120):
            program, start, target, reads, steps, states = case
            told = settle(*case)
            if isinstance(told, Wall):
                wide = spread(told.lot, program.counters, reads)
                for layer in slow_layers(program, start, 4):
                    for place in layer:
                        self.assertIs(is_in(wide, place), True)
                        self.assertIs(is_in(target, place), False)
            else:
                for layer in told.layers:
                    for place in layer:
                        self.assertIs(is_in(target, place), False)
            if isinstance(told, Run):
                for length in range(len(told.steps)):
                    here = behind_run(program, start, told.steps[:length])
                    self.assertIs(is_in(target, here), False)
                    self.assertIn(here, told.layers[length])

    def test_great_targets(self):
        # 100 states, and a start with counters to 100.
        program = Program(2, 1, ((0, (1, 0), (0, 1), 0), (0, (0, 2), (1, 0), 0)))
        target = just_these(2, 1, [(0, (101 + 3 * k, 200 - k)) for k in range(12)])
        told = settle(program, (0, (60, 40)), target, (), 8, 1)
        self.assertIs(is_settled(program, (0, (60, 40)), target, (), 8, 1, told), True)
        self.assertIsInstance(told, Neither)
        self.assertIsNotNone(least_in(target))


class Changed(Raising):
    def check(self, case, told, counts):
        truth = slow_is_settled(*case, told)
        self.assertIs(is_settled(*case, told), truth, vars(told))
        counts[truth] += 1

    def test_one_thing_changed(self):
        counts = {True: 0, False: 0}
        for case in [(*FIRST, 3, 3), (*FIRST, 3, 2), (*FOUR, 3, 3), (*SECOND, 3, 3),
                     *drawn_cases(7, 12, ((1, 0), (2, 1), (1, 2)))]:
            told = settle(*case)
            one, other = list(vars(told).values())
            for value in changed(other):
                self.check(case, type(told)(one, value), counts)
            if isinstance(told, Wall):
                lot = told.lot
                for good in changed(lot.good):
                    try:
                        self.check(case, Wall(Lot(lot.counters, lot.moves, good, lot.begins), other),
                                   counts)
                    except BadLot:
                        pass
            else:
                for value in changed(one):
                    self.check(case, type(told)(value, other), counts)
            for kind in (Run, Wall, Neither):
                self.check(case, kind(one, other), counts)
                self.check(case, kind(other, one), counts)
        self.assertGreater(counts[False], 1000)
        self.assertGreater(counts[True], 20)

    def test_other_sizes(self):
        counts = {True: 0, False: 0}
        for case in drawn_cases(8, 60, ((1, 0), (2, 1), (1, 2))):
            told = settle(*case)
            for steps in range(max(0, case[4] - 1), case[4] + 3):
                for states in range(max(0, case[5] - 1), case[5] + 2):
                    self.check((*case[:4], steps, states), told, counts)
            self.check((*case[:2], none_of(case[0].counters, case[0].locations), *case[3:]), told,
                       counts)
            self.check((*case[:2], all_of(case[0].counters, case[0].locations), *case[3:]), told,
                       counts)
        self.assertGreater(min(counts.values()), 50)

    def test_runs(self):
        case = (*FOUR, 3, 3)
        layers = (((0, (0,)),), ((0, (2,)),), ((0, (4,)),))
        self.assertIs(is_settled(*case, Run([0, 0], [list(layers[0]), [[0, [2]]]])), True)
        for steps, told in (((0,), layers[:1]), ((0, 0, 0), layers), ((0, 0), layers[:1]),
                            ((0, 0), layers), ((0, 0), layers[1:]), ((0, False), layers[:2]),
                            ((0, 1), layers[:2]), ((0, -1), layers[:2]), ((), ()), ("00", layers[:2]),
                            (None, layers[:2]), ((0, 0), None), ((0, 0), 5), ((0, 0), "ab"),
                            ((0, 0), ("a", "b")), ((0, 0), (((0, (0,)),), ((False, (2,)),))),
                            ((0, 0), (((0, (0,)),) * 2, ((0, (2,)),)))):
            self.assertIs(is_settled(*case, Run(steps, told)), False, (steps, told))
        self.assertIs(is_settled(*FOUR, 1, 3, Run((0, 0), layers[:2])), False)
        # Longer than need be: through the target, or by a round.
        program = Program(1, 1, ((0, (0,), (1,), 0), (0, (1,), (0,), 0)))
        case = (program, (0, (0,)), ONE, (), 5, 0)
        self.assertIs(is_settled(*case, Run((0,), (((0, (0,)),),))), True)
        for run in ((0, 1, 0), (0, 0, 1), (1,)):
            for many in range(4):
                layers = slow_layers(program, (0, (0,)), 4)[:many]
                self.assertIs(is_settled(*case, Run(run, layers)), False)

    def test_walls(self):
        case = (*FIRST, 3, 3)
        for lot, tree in ((EVEN_WALL, TEN_LEAVES), (EVEN_WALL, ("begins", 0, ())), (EVEN_WALL, None),
                          (all_of(1, 1), FOUR_LEAVES), (none_of(1, 1), FOUR_LEAVES), (ONE, FOUR_LEAVES),
                          (all_of(0, 1), FOUR_LEAVES), (all_of(1, 2), FOUR_LEAVES),
                          (TURNS_WALL, FOUR_LEAVES), (None, FOUR_LEAVES), (5, FOUR_LEAVES),
                          (vars(EVEN_WALL), FOUR_LEAVES), (TWO_MORE, FOUR_LEAVES), (FOUR_LEAVES, None)):
            self.assertIs(is_settled(*case, Wall(lot, tree)), False)
        # A state more than need be: the tree is for two, not for three.
        more = Lot(1, ((2, 1), (3, 1), (2, 2), (1, 3)), (True, False, True, False), (0,))
        self.assertIs(is_wall(*FIRST[:3], more, (0,)), True)
        self.assertIs(is_settled(*FIRST, 3, 4, Wall(more, FOUR_LEAVES)), False)
        self.assertIs(is_settled(*FIRST, 3, 2, Wall(EVEN_WALL, FOUR_LEAVES)), False)
        # Lists for tuples within a tree are made tuples.
        told = settle(*FIRST, 3, 3)
        self.assertIs(is_settled(*case, Wall(told.lot, list(told.tree))), True)

    def test_any_values(self):
        for told in (None, 0, True, "Run", (), [], {}, set(), ((), ()), ((0, 0), ()), Run, Lot,
                     EVEN_WALL, FOUR_LEAVES, vars(settle(*FIRST, 3, 3)), TWO_MORE, object()):
            self.assertIs(is_settled(*FIRST, 3, 3, told), False)
            self.assertIs(is_settled(*FIRST, 0, 0, told), False)

    def test_errors_in_order(self):
        for call, more in ((settle, ()), (is_settled, (None,)), (is_settled, (Run((), ()),))):
            for start in ([0, (0, 0)], (0, [0, 0]), (2, (0, 0)), (0, (0,)), None, (0, (True, 0))):
                self.wrong(BadConfiguration, {"configuration": start}, call, BY_TURNS, start, None,
                           None, None, None, *more)
            for target in (None, 0, (), all_of(1, 2), all_of(2, 1), ((0,),)):
                self.wrong(BadLot, {"lot": target}, call, BY_TURNS, (0, (0, 0)), target, None, None,
                           None, *more)
            for reads in (None, (2,), (1, 0), (0, 0), (True,), "0", {}):
                self.wrong(BadReads, {"reads": reads}, call, *SECOND[:3], reads, None, None, *more)
            for number in NO_NATURALS:
                self.wrong(BadNumber, {"what": "steps", "number": number}, call, *SECOND, number,
                           None, *more)
                self.wrong(BadNumber, {"what": "states", "number": number}, call, *SECOND, 2,
                           number, *more)

    def test_nothing_passed_is_changed(self):
        reads = [0, 1]
        told = settle(*SECOND[:3], reads, 2, 3)
        is_settled(*SECOND[:3], reads, 2, 3, told)
        self.assertEqual(reads, [0, 1])


if __name__ == "__main__":
    import unittest

    unittest.main()
