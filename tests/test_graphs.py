"""[42] to [44]: marked graphs."""

import random

from numberwall.errors import BadConfiguration, NotOfKind
from numberwall.graphs import Barred, Led, check_graph, empty_ring, graph_run, is_graph_told
from numberwall.lots import Lot, just_these
from numberwall.programs import Program, behind_run, next_one, steps_at
from numberwall.walls import is_wall
from numberwall.weights import weights_equal
from drawn_programs import BY_TURNS, TWO_MORE
from raising import Raising
from slow_graphs import all_rings, distance, is_barred, slow_is_told, slow_live, slow_wrong
from slow_trees import changed

# Tokens go round from counter to counter: 0, 1, 2.
WHEEL = Program(3, 1, ((0, (1, 0, 0), (0, 1, 0), 0), (0, (0, 1, 0), (0, 0, 1), 0),
                       (0, (0, 0, 1), (1, 0, 0), 0)))
# One step takes and gives the same counter; a step without counters; and two side by side.
SELF = Program(1, 1, ((0, (1,), (1,), 0), (0, (0,), (0,), 0)))
PAIR = Program(2, 1, ((0, (1, 0), (0, 1), 0), (0, (0, 1), (1, 0), 0)))
ALIKE = Program(2, 1, ((0, (1, 1), (0, 0), 0), (0, (0, 0), (1, 1), 0)))
EMPTY = Program(0, 1, ((0, (), (), 0),))


def drawn_graph(chance, counters=None):
    counters = chance.randrange(6) if counters is None else counters
    steps = chance.randrange(1, 6)
    takes = [[0] * counters for _ in range(steps)]
    gives = [[0] * counters for _ in range(steps)]
    for i in range(counters):
        chance.choice(takes)[i] = 1
        chance.choice(gives)[i] = 1
    return Program(counters, 1, [(0, one, other, 0) for one, other in zip(takes, gives)])


def drawn_case(chance, counters=None, top=3, length=12):
    """A marked graph, a configuration, and another one, often such that a run leads there."""
    program = drawn_graph(chance, counters)
    one = (0, tuple(chance.randrange(top) for _ in range(program.counters)))
    if chance.random() < 0.4:
        return (program, one, (0, tuple(chance.randrange(top) for _ in range(program.counters))))
    other = one
    for _ in range(chance.randrange(length)):
        steps = steps_at(program, other)
        if steps:
            other = next_one(program, other, chance.choice(steps))
    return (program, one, other)


class Graphs(Raising):
    def test_marked_graphs(self):
        for program in (WHEEL, SELF, PAIR, ALIKE, EMPTY, Program(0, 1, ())):
            self.assertIsNone(check_graph(program))

    def test_others(self):
        for program, why in (
                (BY_TURNS, "locations"), (Program(0, 2, ()), "locations"),
                (Program(1, 2, ((0, (1,), (1,), 0),)), "locations"),
                (TWO_MORE, ("counter", 0)), (Program(2, 1, ()), ("counter", 0)),
                # No taker, no giver, two takers, two givers, 2 taken, 2 given.
                (Program(2, 1, ((0, (1, 0), (1, 1), 0),)), ("counter", 1)),
                (Program(2, 1, ((0, (1, 1), (1, 0), 0),)), ("counter", 1)),
                (Program(2, 1, ((0, (1, 1), (1, 1), 0), (0, (0, 1), (0, 0), 0))), ("counter", 1)),
                (Program(2, 1, ((0, (1, 1), (1, 1), 0), (0, (0, 0), (0, 1), 0))), ("counter", 1)),
                (Program(2, 1, ((0, (1, 2), (1, 1), 0),)), ("counter", 1)),
                (Program(2, 1, ((0, (1, 1), (1, 2), 0),)), ("counter", 1)),
                (Program(2, 1, ((0, (2, 2), (1, 2), 0),)), ("counter", 0))):
            self.assertEqual(slow_wrong(program), why)
            self.wrong(NotOfKind, {"why": why}, check_graph, program)
            for call, more in ((empty_ring, 1), (graph_run, 2), (is_graph_told, 3)):
                self.wrong(NotOfKind, {"why": why}, call, program, *[None] * more)

    def test_drawn_ones(self):
        chance = random.Random(1)
        right = 0
        for _ in range(300):
            program = drawn_graph(chance)
            steps = [list(map(list, step[1:3])) for step in program.steps]
            if program.counters and chance.random() < 0.7:
                chance.choice(chance.choice(steps))[chance.randrange(program.counters)] += 1
            program = Program(program.counters, 1, [(0, *step, 0) for step in steps])
            why = slow_wrong(program)
            if why is None:
                right += 1
                self.assertIsNone(check_graph(program))
            else:
                self.wrong(NotOfKind, {"why": why}, check_graph, program)
        self.assertTrue(60 < right < 240)


class Rings(Raising):
    def test_examples(self):
        self.assertIsNone(empty_ring(WHEEL, (0, (0, 1, 0))))
        self.assertEqual(sorted(empty_ring(WHEEL, (0, (0, 0, 0)))), [0, 1, 2])
        self.assertEqual(empty_ring(SELF, (0, (0,))), (0,))
        self.assertIsNone(empty_ring(SELF, (0, (1,))))
        self.assertIsNone(empty_ring(EMPTY, (0, ())))
        # Both counters go the same way, so there is no ring.
        self.assertIsNone(empty_ring(ALIKE, (0, (0, 0))))

    def test_drawn_ones(self):
        chance = random.Random(2)
        live = 0
        for _ in range(400):
            program, one, _ = drawn_case(chance)
            told = empty_ring(program, one)
            if slow_live(program, one):
                live += 1
                self.assertIsNone(told)
            else:
                self.assertIsInstance(told, tuple)
                self.assertIn(told, list(all_rings(program)))
                self.assertEqual([one[1][i] for i in told], [0] * len(told))
        self.assertTrue(100 < live < 350)

    def test_fact_a_rings_keep_their_tokens(self):
        chance = random.Random(3)
        for _ in range(100):
            program, one, _ = drawn_case(chance)
            here = one
            for _ in range(6):
                steps = steps_at(program, here)
                here = next_one(program, here, chance.choice(steps)) if steps else here
                for row in all_rings(program):
                    self.assertEqual(sum(one[1][i] for i in row), sum(here[1][i] for i in row))

    def test_errors(self):
        for place in ([0, (0,)], (0, [0]), (1, (0,)), (0, (0, 0)), None, (0, (True,)), (0, (-1,))):
            self.wrong(BadConfiguration, {"configuration": place}, empty_ring, SELF, place)


class Runs(Raising):
    def test_what_they_keep(self):
        self.assertEqual(vars(Led([0, 1])), {"steps": (0, 1)})
        self.assertEqual(vars(Barred([0, [1]])), {"y": (0, (1,))})
        self.assertTrue(Led((0,)) == Led([0]))
        self.assertFalse(Led((0,)) == Led((1,)))
        self.assertTrue(Barred((0,)) == Barred([0]))
        self.assertTrue(Barred((0,)) != Barred((1,)))
        for one in (Led((0,)), Barred((0,))):
            for other in (Led((0,)), Barred((0,)), (0,), None):
                self.assertIs(one == other, one.__class__ is other.__class__)
        self.assertFalse(issubclass(Led, Barred) or issubclass(Barred, Led))

    def test_examples(self):
        self.assertEqual(graph_run(WHEEL, (0, (1, 0, 0)), (0, (0, 0, 1))), Led((0, 1)))
        self.assertEqual(graph_run(WHEEL, (0, (1, 0, 0)), (0, (1, 0, 0))), Led(()))
        self.assertEqual(graph_run(WHEEL, (0, (0, 0, 1)), (0, (0, 1, 0))), Led((2, 0)))
        told = graph_run(WHEEL, (0, (1, 0, 0)), (0, (1, 1, 0)))
        self.assertTrue(is_barred(WHEEL, (0, (1, 0, 0)), (0, (1, 1, 0)), told))
        self.assertEqual(graph_run(SELF, (0, (2,)), (0, (2,))), Led(()))
        self.assertIn(graph_run(SELF, (0, (2,)), (0, (1,))), (Barred((1,)), Barred((-1,))))
        self.assertEqual(graph_run(EMPTY, (0, ()), (0, ())), Led(()))
        self.assertEqual(graph_run(Program(0, 1, ()), (0, ()), (0, ())), Led(()))
        # One counter is gone with its way, the other one against it.
        self.assertEqual(graph_run(ALIKE, (0, (0, 0)), (0, (3, 3))), Led((1, 1, 1)))
        self.assertIn(graph_run(ALIKE, (0, (0, 1)), (0, (3, 3))), (Barred((1, -1)), Barred((-1, 1))))
        self.assertEqual(graph_run(PAIR, (0, (3, 0)), (0, (1, 2))), Led((0, 0)))
        self.assertIn(graph_run(PAIR, (0, (3, 0)), (0, (1, 1))), (Barred((1, 1)), Barred((-1, -1))))

    def test_drawn_ones(self):
        chance = random.Random(4)
        kinds = {Led: 0, Barred: 0, None: 0}
        for _ in range(500):
            case = drawn_case(chance)
            program, one, other = case
            if not slow_live(program, one):
                self.wrong(NotOfKind, {"why": "live"}, graph_run, *case)
                self.wrong(NotOfKind, {"why": "live"}, is_graph_told, *case, None)
                kinds[None] += 1
                continue
            told = graph_run(*case)
            kinds[type(told)] += 1
            self.assertEqual(told, graph_run(*case))
            self.assertIs(is_graph_told(*case, told), True)
            if isinstance(told, Barred):
                self.assertTrue(is_barred(*case, told))
                lot = weights_equal(told.y, (0,), sum(a * b for a, b in zip(told.y, one[1])))
                target = just_these(program.counters, 1, (other,))
                reads = tuple(range(program.counters))
                self.assertIs(is_wall(program, one, target, lot, reads), True)
            else:
                self.assertEqual(behind_run(program, one, told.steps), other)
        self.assertGreater(min(kinds.values()), 50)

    def test_runs_are_of_the_least_length(self):
        chance = random.Random(5)
        lengths = []
        for _ in range(200):
            program, one, other = drawn_case(chance, chance.randrange(1, 5), 3, 12)
            if slow_live(program, one):
                told = graph_run(program, one, other)
                if isinstance(told, Led):
                    self.assertEqual(len(told.steps), distance(program, one, other, len(told.steps)))
                    lengths.append(len(told.steps))
        self.assertGreater(max(lengths), 4)

    def test_many_tokens(self):
        chance = random.Random(6)
        longest = 0
        for _ in range(60):
            case = drawn_case(chance, 5, 21, 300)
            if slow_live(*case[:2]):
                told = graph_run(*case)
                self.assertIs(is_graph_told(*case, told), True)
                if isinstance(told, Led):
                    self.assertEqual(behind_run(*case[:2], told.steps), case[2])
                    longest = max(longest, len(told.steps))
        self.assertGreater(longest, 50)
        self.assertEqual(graph_run(PAIR, (0, (100, 0)), (0, (0, 100))), Led((0,) * 100))

    def test_one_thing_changed(self):
        chance = random.Random(7)
        counts = {True: 0, False: 0}
        for _ in range(120):
            case = drawn_case(chance, chance.randrange(5), 2, 8)
            if not slow_live(*case[:2]):
                continue
            told = graph_run(*case)
            shortest = distance(*case, 8) if isinstance(told, Led) else None
            field, = vars(told).values()
            values = [*changed(field), field + field, (*field, 0), (0, *field), (), None, 5, "0"]
            for value in values:
                for kind in (Led, Barred):
                    truth = slow_is_told(*case, kind(value), shortest)
                    self.assertIs(is_graph_told(*case, kind(value)), truth)
                    counts[truth] += 1
        self.assertGreater(counts[False], 1000)
        self.assertGreater(counts[True], 50)

    def test_runs_that_are_longer_or_wrong(self):
        one, other = (0, (1, 0, 0)), (0, (0, 0, 1))
        for steps, truth in (((0, 1), True), ([0, 1], True), ((0,), False), ((0, 1, 2, 0, 1), False),
                             ((1, 0), False), ((0, True), False), ((0, 3), False), ((0, -2), False),
                             ("01", False), (None, False), ((), False)):
            self.assertIs(is_graph_told(WHEEL, one, other, Led(steps)), truth)
        # A step without counters is a part of its own: it leads nowhere.
        self.assertIs(is_graph_told(SELF, (0, (1,)), (0, (1,)), Led(())), True)
        for steps in ((0,), (1,), (0, 1)):
            self.assertIs(is_graph_told(SELF, (0, (1,)), (0, (1,)), Led(steps)), False)
        self.assertIs(is_graph_told(EMPTY, (0, ()), (0, ()), Led((0,))), False)

    def test_weights(self):
        one, other = (0, (0, 1)), (0, (3, 3))
        for y, truth in (((1, -1), True), ([-1, 1], True), ((0, 0), False), ((1, 1), False),
                         ((2, -2), False), ((True, -1), False), ((1,), False), ((1, -1, 0), False),
                         (None, False), ((1.0, -1), False)):
            self.assertIs(is_graph_told(ALIKE, one, other, Barred(y)), truth)
            self.assertIs(is_graph_told(ALIKE, (0, (0, 0)), other, Barred(y)), False)

    def test_any_values(self):
        for told in (None, 0, True, "Led", (), [], {}, (0, 1), ((0, 1),), Led, Barred, Lot, WHEEL):
            self.assertIs(is_graph_told(WHEEL, (0, (1, 0, 0)), (0, (0, 0, 1)), told), False)

    def test_errors_in_order(self):
        for call, more in ((graph_run, ()), (is_graph_told, (None,)), (is_graph_told, (Led(()),))):
            for place in ([0, (0,)], (0, [0]), (1, (0,)), (0, (0, 0)), None, (0, (True,)), (0, (-1,))):
                fields = {"configuration": place}
                self.wrong(BadConfiguration, fields, call, SELF, place, None, *more)
                # Not live, but what is no configuration is told first.
                self.wrong(BadConfiguration, fields, call, SELF, (0, (0,)), place, *more)
            self.wrong(NotOfKind, {"why": "live"}, call, SELF, (0, (0,)), (0, (0,)), *more)
            self.wrong(NotOfKind, {"why": "live"}, call, WHEEL, (0, (0, 0, 0)), (0, (0, 0, 0)), *more)


if __name__ == "__main__":
    import unittest

    unittest.main()
