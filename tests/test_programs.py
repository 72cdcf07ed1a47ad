"""[8] to [12]: programs, configurations, runs, layers, turned about and cut."""

import itertools
import random
import unittest

from numberwall.errors import BadConfiguration, BadNumber, BadProgram, BadReads, BadStep
from numberwall.programs import Program, behind_run, cut, is_configuration, layers, next_one
from numberwall.programs import run_to, steps_at, turned
from raising import Raising

# One location, one counter: one step adds 2.
TWO_MORE = Program(1, 1, ((0, (0,), (2,), 0),))
# Adds 1 to the counters by turns.
BY_TURNS = Program(2, 2, ((0, (0, 0), (1, 0), 1), (1, (0, 0), (0, 1), 0)))
# A token goes from counter 0 to 1; one step needs what it gives back.
LOCKED = Program(2, 2, ((0, (1, 0), (0, 1), 0), (0, (2, 1), (2, 1), 1), (1, (0, 3), (4, 0), 0)))
NO_INTEGERS = (True, False, None, "1", 1.0, -1, [1], (1,))


class Programs(Raising):
    def test_attributes_are_tuples_throughout(self):
        program = Program(2, 1, [[0, [1, 0], (0, 9), 0], (0, [0, 0], [0, 0], 0)])
        self.assertEqual(program.counters, 2)
        self.assertEqual(program.locations, 1)
        self.assertEqual(program.steps, ((0, (1, 0), (0, 9), 0), (0, (0, 0), (0, 0), 0)))

    def test_nothing_passed_is_changed_and_nothing_is_shared(self):
        takes = [1]
        steps = [[0, takes, [2], 0]]
        program = Program(1, 1, steps)
        self.assertEqual(steps, [[0, [1], [2], 0]])
        takes[0] = 5
        steps.append(0)
        self.assertEqual(program.steps, ((0, (1,), (2,), 0),))

    def test_smallest_programs(self):
        for steps in ((), []):
            self.assertEqual(Program(0, 1, steps).steps, ())
        self.assertEqual(Program(0, 2, ((0, (), [], 1),)).steps, ((0, (), (), 1),))

    def test_equal_if_all_three_are(self):
        steps = ((0, (0,), (2,), 0),)
        self.assertTrue(TWO_MORE == Program(1, 1, [[0, [0], [2], 0]]))
        self.assertFalse(TWO_MORE != Program(1, 1, steps))
        for other in (Program(1, 2, steps), Program(1, 1, ()), Program(1, 1, steps * 2),
                      Program(1, 1, ((0, (0,), (3,), 0),)), steps, None, (1, 1, steps)):
            self.assertFalse(TWO_MORE == other)
            self.assertTrue(TWO_MORE != other)
        self.assertFalse(Program(1, 1, ()) == Program(2, 1, ()))
        self.assertFalse(Program(1, 1, ()) == Program(1, 2, ()))

    def test_wrong_numbers(self):
        for number in NO_INTEGERS:
            self.wrong(BadNumber, {"what": "counters", "number": number}, Program, number, 1, ())
            self.wrong(BadNumber, {"what": "locations", "number": number}, Program, 1, number, ())
        self.wrong(BadNumber, {"what": "locations", "number": 0}, Program, 0, 0, ())

    def test_steps_that_are_no_row(self):
        for steps in (None, "", 0, {}, set(), iter(()), range(0)):
            self.wrong(BadProgram, {"index": None}, Program, 1, 1, steps)

    def test_first_wrong_step(self):
        right = (0, (1, 0), (0, 1), 1)
        wrong = (None, 7, "0111", (), right[:3], right + (0,), {},
                 (2,) + right[1:], (-1,) + right[1:], (True,) + right[1:], (0.0,) + right[1:],
                 right[:3] + (2,), right[:3] + (-1,), right[:3] + (False,), right[:3] + (None,),
                 (0, (1,), (0, 1), 1), (0, (1, 0, 0), (0, 1), 1), (0, (1, -1), (0, 1), 1),
                 (0, (True, 0), (0, 1), 1), (0, "10", (0, 1), 1), (0, 1, (0, 1), 1),
                 (0, (1, 0), (1,), 1), (0, (1, 0), (0, -1), 1), (0, (1, 0), (0, False), 1),
                 (0, (1, 0), (0, "1"), 1), (0, (1, 0), (0, 1, 0), 1), (0, (1, 0), None, 1))
        for step in wrong:
            self.wrong(BadProgram, {"index": 0}, Program, 2, 2, (step,))
            self.wrong(BadProgram, {"index": 1}, Program, 2, 2, [right, step, right, step])
            self.wrong(BadProgram, {"index": 2}, Program, 2, 2, [right, right, step])

    def test_order_of_errors(self):
        self.wrong(BadNumber, {"what": "counters", "number": -1}, Program, -1, 0, None)
        self.wrong(BadNumber, {"what": "locations", "number": 0}, Program, 1, 0, None)


class Configurations(Raising):
    def test_right_ones(self):
        for value in ((0, (0, 0)), (1, (0, 999)), (1, (10 ** 6, 3))):
            self.assertIs(is_configuration(BY_TURNS, value), True)
        self.assertIs(is_configuration(Program(0, 1, ()), (0, ())), True)

    def test_wrong_ones(self):
        for value in ([0, (0, 0)], (0, [0, 0]), (2, (0, 0)), (-1, (0, 0)), (True, (0, 0)),
                      (0, (0,)), (0, (0, 0, 0)), (0, (0, -1)), (0, (False, 0)), (0, ("0", 0)),
                      (0,), (0, (0, 0), 0), (), 0, None, "ab", (None, (0, 0)), (0, None),
                      (0, 0, 0), {0: (0, 0)}, (0, (0, 0.0)), ((0, 0), 0)):
            self.assertIs(is_configuration(BY_TURNS, value), False, value)
        for value in ((0, (0,)), (1, ()), (0, [])):
            self.assertIs(is_configuration(Program(0, 1, ()), value), False)


class Steps(Raising):
    def test_steps_at(self):
        self.assertEqual(steps_at(LOCKED, (0, (0, 9))), ())
        self.assertEqual(steps_at(LOCKED, (0, (1, 0))), (0,))
        self.assertEqual(steps_at(LOCKED, (0, (2, 0))), (0,))
        self.assertEqual(steps_at(LOCKED, (0, (2, 1))), (0, 1))
        self.assertEqual(steps_at(LOCKED, (1, (9, 2))), ())
        self.assertEqual(steps_at(LOCKED, (1, (0, 3))), (2,))

    def test_next_one(self):
        self.assertEqual(next_one(LOCKED, (0, (1, 5)), 0), (0, (0, 6)))
        self.assertEqual(next_one(LOCKED, (0, (2, 1)), 1), (1, (2, 1)))
        self.assertEqual(next_one(LOCKED, (1, (0, 3)), 2), (0, (4, 0)))
        self.assertIsNone(next_one(LOCKED, (0, (0, 5)), 0))
        self.assertIsNone(next_one(LOCKED, (0, (2, 0)), 1))
        self.assertIsNone(next_one(LOCKED, (1, (2, 1)), 1))
        self.assertEqual(next_one(Program(0, 2, ((0, (), (), 1),)), (0, ()), 0), (1, ()))

    def test_errors_in_order(self):
        for value in ([0, (0, 0)], (0, (0,)), None):
            fields = {"configuration": value}
            self.wrong(BadConfiguration, fields, steps_at, BY_TURNS, value)
            self.wrong(BadConfiguration, fields, next_one, BY_TURNS, value, -1)
            self.wrong(BadConfiguration, fields, behind_run, BY_TURNS, value, (9,))
        for k in (*NO_INTEGERS, 2):
            self.wrong(BadNumber, {"what": "step", "number": k}, next_one, BY_TURNS, (0, (0, 0)), k)

    def test_what_has_more_can_do_as_much(self):
        for location, x, more in itertools.product(range(2), itertools.product(range(5), repeat=2),
                                                   ((1, 0), (0, 1), (7, 3))):
            greater = tuple(one + other for one, other in zip(x, more))
            for k in steps_at(LOCKED, (location, x)):
                there, y = next_one(LOCKED, (location, x), k)
                raised = tuple(one + other for one, other in zip(y, more))
                self.assertEqual(next_one(LOCKED, (location, greater), k), (there, raised))


class Runs(Raising):
    def test_behind_run(self):
        start = (0, (3, 0))
        self.assertEqual(behind_run(LOCKED, start, ()), start)
        self.assertEqual(behind_run(LOCKED, start, []), start)
        self.assertEqual(behind_run(LOCKED, start, (0, 1)), (1, (2, 1)))
        self.assertEqual(behind_run(LOCKED, (0, (5, 0)), [0, 0, 0, 1, 2]), (0, (6, 0)))

    def test_first_wrong_place(self):
        start = (0, (1, 0))
        for run, index in (((0, 0), 1), ((1,), 0), ((2, 0), 0), ((0, 3), 1), ((-1,), 0),
                           ((0, True), 1), ((0, None, 9), 1), (("0",), 0), ([0, [0]], 1),
                           ((False,), 0), ((0, 0.0), 1)):
            self.wrong(BadStep, {"index": index}, behind_run, LOCKED, start, run)

    def test_run_of_many_steps(self):
        self.assertEqual(behind_run(TWO_MORE, (0, (1,)), (0,) * 200), (0, (401,)))


class Layers(Raising):
    def test_layers(self):
        self.assertEqual(layers(TWO_MORE, (0, (0,)), 3),
                         (((0, (0,)),), ((0, (2,)),), ((0, (4,)),), ((0, (6,)),)))
        self.assertEqual(layers(TWO_MORE, (0, (5,)), 0), (((0, (5,)),),))

    def test_no_layer_behind_the_first_empty_one(self):
        stuck = Program(1, 1, ((0, (1,), (0,), 0),))
        self.assertEqual(layers(stuck, (0, (0,)), 8), (((0, (0,)),), ()))
        self.assertEqual(layers(stuck, (0, (0,)), 1), (((0, (0,)),), ()))
        self.assertEqual(layers(stuck, (0, (0,)), 0), (((0, (0,)),),))
        self.assertEqual(layers(stuck, (0, (2,)), 8),
                         (((0, (2,)),), ((0, (1,)),), ((0, (0,)),), ()))
        self.assertEqual(layers(stuck, (0, (2,)), 2),
                         (((0, (2,)),), ((0, (1,)),), ((0, (0,)),)))
        self.assertEqual(layers(Program(0, 1, ((0, (), (), 0),)), (0, ()), 5), (((0, ()),), ()))

    def test_each_once_and_ascending(self):
        both = Program(2, 2, ((0, (0, 0), (0, 1), 0), (0, (0, 0), (1, 0), 0),
                              (0, (0, 0), (0, 0), 1), (1, (0, 0), (0, 0), 0)))
        self.assertEqual(layers(both, (0, (0, 0)), 2), (
            ((0, (0, 0)),),
            ((0, (0, 1)), (0, (1, 0)), (1, (0, 0))),
            ((0, (0, 2)), (0, (1, 1)), (0, (2, 0)), (1, (0, 1)), (1, (1, 0)))))

    def test_all_runs_played(self):
        for program, start in random_cases(60):
            nearest = {}
            for length in range(5):
                for run in itertools.product(range(len(program.steps)), repeat=length):
                    end = played(program, start, run)
                    if end is not None:
                        nearest.setdefault(end, run)
            expected = [tuple(sorted(end for end, run in nearest.items() if len(run) == length))
                        for length in range(5)]
            if () in expected:
                del expected[expected.index(()) + 1:]
            self.assertEqual(layers(program, start, 4), tuple(expected))
            for goal, run in nearest.items():
                self.assertEqual(run_to(program, start, goal, 4), run)
                self.assertEqual(run_to(program, start, goal, len(run)), run)
                if run:
                    self.assertIsNone(run_to(program, start, goal, len(run) - 1))
            far = (0, (77,) * program.counters)
            if far not in nearest:
                self.assertIsNone(run_to(program, start, far, 4))

    def test_run_to(self):
        self.assertEqual(run_to(TWO_MORE, (0, (1,)), (0, (7,)), 3), (0, 0, 0))
        self.assertIsNone(run_to(TWO_MORE, (0, (1,)), (0, (7,)), 2))
        self.assertIsNone(run_to(TWO_MORE, (0, (1,)), (0, (8,)), 8))
        for most in (0, 8):
            self.assertEqual(run_to(TWO_MORE, (0, (1,)), (0, (1,)), most), ())

    def test_least_of_the_shortest_runs(self):
        # Both ways go in two steps; the last steps alone would choose the other one.
        ways = Program(0, 4, ((2, (), (), 3), (1, (), (), 3), (0, (), (), 1), (0, (), (), 2),
                              (0, (), (), 1)))
        self.assertEqual(run_to(ways, (0, ()), (3, ()), 8), (2, 1))
        # A longer run would be less as a tuple.
        longer = Program(0, 3, ((0, (), (), 1), (1, (), (), 2), (0, (), (), 2), (0, (), (), 2)))
        self.assertEqual(run_to(longer, (0, ()), (2, ()), 8), (2,))

    def test_ends_where_nothing_more_is_reached(self):
        ring = Program(0, 2, ((0, (), (), 1), (1, (), (), 0)))
        self.assertEqual(layers(ring, (0, ()), 10 ** 9), (((0, ()),), ((1, ()),), ()))
        self.assertIsNone(run_to(Program(0, 2, ((0, (), (), 0),)), (0, ()), (1, ()), 10 ** 9))

    def test_errors_in_order(self):
        right, wrong = (0, (0, 0)), (0, [0, 0])
        fields = {"configuration": wrong}
        self.wrong(BadConfiguration, fields, layers, BY_TURNS, wrong, -1)
        self.wrong(BadConfiguration, fields, run_to, BY_TURNS, wrong, (7,), -1)
        self.wrong(BadConfiguration, fields, run_to, BY_TURNS, right, wrong, -1)
        for most in NO_INTEGERS:
            fields = {"what": "steps", "number": most}
            self.wrong(BadNumber, fields, layers, BY_TURNS, right, most)
            self.wrong(BadNumber, fields, run_to, BY_TURNS, right, right, most)


class Turned(Raising):
    def test_turned(self):
        self.assertEqual(turned(LOCKED), Program(2, 2, (
            (0, (0, 1), (1, 0), 0), (1, (2, 1), (2, 1), 0), (0, (4, 0), (0, 3), 1))))
        self.assertEqual(turned(Program(0, 3, ())), Program(0, 3, ()))

    def test_turned_twice(self):
        for program, _ in random_cases(40):
            self.assertEqual(turned(turned(program)), program)

    def test_steps_back(self):
        for program, start in random_cases(40):
            back = turned(program)
            for k in range(len(program.steps)):
                there = next_one(program, start, k)
                if there is not None:
                    self.assertEqual(next_one(back, there, k), start)
                there = next_one(back, start, k)
                if there is not None:
                    self.assertEqual(next_one(program, there, k), start)

    def test_runs_back(self):
        run = (0, 0, 0, 1, 2, 0)
        goal = behind_run(LOCKED, (0, (5, 0)), run)
        self.assertEqual(behind_run(turned(LOCKED), goal, run[::-1]), (0, (5, 0)))


class Cut(Raising):
    def test_no_some_and_all_counters(self):
        program = Program(3, 2, ((0, (1, 2, 3), (4, 5, 6), 1), (1, (0, 0, 1), (0, 1, 0), 0)))
        self.assertEqual(cut(program, ()), Program(0, 2, ((0, (), (), 1), (1, (), (), 0))))
        self.assertEqual(cut(program, [1]), Program(1, 2, ((0, (2,), (5,), 1), (1, (0,), (1,), 0))))
        self.assertEqual(cut(program, (0, 2)), Program(2, 2, (
            (0, (1, 3), (4, 6), 1), (1, (0, 1), (0, 0), 0))))
        self.assertEqual(cut(program, (0, 1, 2)), program)
        self.assertEqual(cut(Program(0, 1, ()), []), Program(0, 1, ()))

    def test_runs_stay_runs(self):
        reached = behind_run(LOCKED, (0, (5, 0)), (0, 0, 0, 1, 2))
        for reads in ((), (0,), (1,), (0, 1)):
            start = (0, tuple((5, 0)[i] for i in reads))
            goal = (reached[0], tuple(reached[1][i] for i in reads))
            self.assertEqual(behind_run(cut(LOCKED, reads), start, (0, 0, 0, 1, 2)), goal)

    def test_what_are_no_reads(self):
        for reads in ((2,), (-1,), (0, 0), (1, 0), (True,), (0, True), (False,), ("0",), "0", "",
                      None, 0, {}, set(), (0, None), (0, 1, 2), [0, 1, 1], ((0,),), (0.0,),
                      range(2)):
            self.wrong(BadReads, {"reads": reads}, cut, BY_TURNS, reads)


def random_cases(many):
    """Pairs of a program and a configuration, the same ones each time."""
    chance = random.Random(8)
    cases = []
    for _ in range(many):
        counters, locations = chance.randrange(4), chance.randrange(1, 4)

        def row(most, counters=counters):
            return tuple(chance.choice((0, 0, 1, most)) for _ in range(counters))

        steps = [(chance.randrange(locations), row(2), row(2), chance.randrange(locations))
                 for _ in range(chance.randrange(5))]
        cases.append((Program(counters, locations, steps), (chance.randrange(locations), row(5))))
    return cases


def played(program, start, run):
    """The configuration behind a run, None if it is none, by next_one alone."""
    for k in run:
        start = next_one(program, start, k)
        if start is None:
            return None
    return start


if __name__ == "__main__":
    unittest.main()
