"""[36] to [41]: walls of weights, and what numbers of steps can make."""

import random

from numberwall.errors import BadConfiguration, BadNumber
from numberwall.lots import Lot, all_of, is_in, just_these, none_of
from numberwall.programs import Program, behind_run, next_one, steps_at
from numberwall.walls import is_wall
from numberwall.weights import Equal, Flow, Ratios, Sinking, Steady, Wholes, by_parts, by_ratios
from numberwall.weights import by_wholes, is_by_parts, is_by_ratios, is_by_wholes, weights_below
from numberwall.weights import weights_equal, weights_like
from drawn_programs import BY_TURNS, TWO_MORE, drawn_place, drawn_program
from raising import Raising
from slow_lots import configurations, slow_in, slow_least
from slow_trees import changed
from slow_weights import PARTS, RATIOS, WHOLES, gains_of, slow_judge, weight_of

NO_NUMBERS = (True, False, None, "1", 1.0, 0, -1, [1], (1,))
ALL = ((PARTS, by_parts, is_by_parts), (WHOLES, by_wholes, is_by_wholes),
       (RATIOS, by_ratios, is_by_ratios))
# Takes 3 from the first counter and gives 2 to the second one.
TRADE = Program(2, 1, ((0, (3, 0), (0, 2), 0),))
ROUND = Program(0, 3, ((0, (), (), 1), (1, (), (), 0)))


def drawn_weights(chance, counters, locations, most=10):
    return (tuple(chance.choice((0, chance.randint(-most, most))) for _ in range(counters)),
            tuple(chance.choice((0, chance.randint(-most, most))) for _ in range(locations)))


def weighty_program(chance, y, v, is_right, most=3, steps=4):
    """A program all of whose gains are as they should be, as far as some are found."""
    counters, locations = len(y), len(v)
    found = []
    for _ in range(400):
        step = (chance.randrange(locations), [chance.randint(0, most) for _ in range(counters)],
                [chance.randint(0, most) for _ in range(counters)], chance.randrange(locations))
        if is_right(gains_of(Program(counters, locations, (step,)), y, v)[0]):
            found.append(step)
    return Program(counters, locations, found[:steps])


def drawn_pair(chance, program):
    """Two configurations, often so that steps, with debts, lead from one to the other."""
    one = drawn_place(chance, program, chance.choice((3, 20, 1000)))
    if chance.random() < 0.4:
        return (one, drawn_place(chance, program, chance.choice((3, 20, 1000))))
    location, numbers = one
    for _ in range(chance.randrange(20)):
        steps = [step for step in program.steps if step[0] == location]
        if steps:
            _, takes, gives, location = chance.choice(steps)
            numbers = [has - take + give for has, take, give in zip(numbers, takes, gives)]
    return (one, (location, tuple(max(0, number) for number in numbers)))


class Lots(Raising):
    def check(self, lot, counters, locations, is_right, far):
        self.assertEqual((lot.counters, len(lot.begins)), (counters, locations))
        self.assertEqual(lot, slow_least(lot))
        for place in configurations(counters, locations, 3 if counters < 3 else 2):
            self.assertIs(slow_in(lot, place), is_right(place))
        for place in far:
            self.assertIs(is_in(lot, place), is_right(place))

    def test_drawn_ones(self):
        chance = random.Random(1)
        for _ in range(150):
            counters, locations = chance.randrange(4), chance.randrange(1, 4)
            y, v = drawn_weights(chance, counters, locations)
            c = chance.choice((0, chance.randint(-12, 12), chance.randint(-3000, 3000)))
            n = chance.randint(1, 12)
            far = [(chance.randrange(locations), tuple(chance.randrange(10 ** 6)
                                                       for _ in range(counters)))
                   for _ in range(20)]
            self.check(weights_equal(y, v, c), counters, locations,
                       lambda place: weight_of(y, v, place) == c, far)
            self.check(weights_below(list(y), list(v), c), counters, locations,
                       lambda place: weight_of(y, v, place) <= c, far)
            self.check(weights_like(y, v, n, c), counters, locations,
                       lambda place: (weight_of(y, v, place) - c) % n == 0, far)
            # Their own weights, too.
            for place in far[:2]:
                weight = weight_of(y, v, place)
                for less in (-1, 0, 1):
                    self.assertIs(is_in(weights_equal(y, v, weight + less), place), less == 0)
                    self.assertIs(is_in(weights_below(y, v, weight + less), place), less >= 0)
                    self.assertIs(is_in(weights_like(y, v, n, weight + less), place),
                                  less == 0 or n == 1)

    def test_smallest_ones(self):
        self.assertEqual(weights_equal((), (0, 5), 5), Lot(0, ((0,), (1,)), (False, True), (0, 1)))
        self.assertEqual(weights_below((), (0, 5), 4), Lot(0, ((0,), (1,)), (True, False), (0, 1)))
        self.assertEqual(weights_like((0,), (7,), 1, 3), all_of(1, 1))
        self.assertEqual(weights_equal((0,), (0,), 1), none_of(1, 1))
        self.assertEqual(weights_equal((1, -1), (0,), 0),
                         Lot(2, ((0, 1, 1, 0), (1, 1, 1, 1)), (True, False), (0,)))
        # Even numbers; n odd, and even with an odd part.
        self.assertEqual(weights_like((1,), (0,), 2, 4), Lot(1, ((1, 2), (1, 1), (2, 2)),
                                                             (True, True, False), (0,)))
        for n in (3, 4, 6, 12):
            lot = weights_like((1, -1), (0, 2), n, 1)
            for place in configurations(2, 2, 4):
                self.assertIs(is_in(lot, place),
                              (place[1][0] - place[1][1] + 2 * place[0] - 1) % n == 0)

    def test_wrong_moduli(self):
        for n in NO_NUMBERS:
            self.wrong(BadNumber, {"what": "n", "number": n}, weights_like, (1,), (0,), n, 0)

    def test_fact_a_closed_under_steps(self):
        chance = random.Random(2)
        steps = {"equal": 0, "below": 0, "like": 0}
        for _ in range(90):
            counters, locations = chance.randrange(1, 4), chance.randrange(1, 4)
            y, v = drawn_weights(chance, counters, locations, 4)
            n = chance.randint(2, 9)
            reads = tuple(range(counters))
            for kind, is_right in (("equal", lambda gain: gain == 0),
                                   ("below", lambda gain: gain <= 0),
                                   ("like", lambda gain: gain % n == 0)):
                program = weighty_program(chance, y, v, is_right)
                start = drawn_place(chance, program, 8)
                c = weight_of(y, v, start)
                lot = (weights_equal(y, v, c) if kind == "equal" else weights_below(y, v, c)
                       if kind == "below" else weights_like(y, v, n, c))
                nothing = none_of(counters, locations)
                self.assertIs(is_wall(program, start, nothing, lot, reads), True)
                steps[kind] += len(program.steps)
        self.assertGreater(min(steps.values()), 100)


class Kinds(Raising):
    def test_what_they_keep(self):
        for kind in (Flow, Wholes, Ratios):
            told = kind([[1, 2], (0, 1)])
            self.assertEqual(vars(told), {"z": ((1, 2), (0, 1))})
            self.assertTrue(told == kind(((1, 2), (0, 1))))
            self.assertFalse(told == kind(((1, 2), (0, 2))))
            self.assertEqual(vars(kind(None)), {"z": None})
        for kind in (Sinking, Equal):
            told = kind([1, -2], [3])
            self.assertEqual(vars(told), {"y": (1, -2), "v": (3,)})
            self.assertTrue(told == kind((1, -2), (3,)))
            self.assertFalse(told == kind((1, -2), (4,)))
            self.assertFalse(told == kind((1, 2), (3,)))
        told = Steady([1], [2, 3], 4)
        self.assertEqual(vars(told), {"y": (1,), "v": (2, 3), "n": 4})
        self.assertTrue(told == Steady((1,), (2, 3), 4))
        for other in (Steady((2,), (2, 3), 4), Steady((1,), (2, 2), 4), Steady((1,), (2, 3), 5)):
            self.assertFalse(told == other)
            self.assertTrue(told != other)

    def test_no_kind_is_another_one(self):
        every = (Flow, Sinking, Wholes, Steady, Ratios, Equal)
        for kind in every:
            for other in every:
                self.assertIs(issubclass(kind, other), kind is other)
        told = [Flow(()), Wholes(()), Ratios(()), Sinking((1,), (0,)), Equal((1,), (0,)),
                Steady((1,), (0,), 2)]
        for one in told:
            for other in [*told, None, ((),), vars(one)]:
                self.assertIs(one == other, one is other)
                self.assertIs(one != other, one is not other)


class Makes(Raising):
    def test_examples(self):
        told = by_parts(TRADE, (0, (7, 1)), (0, (2, 5)))
        self.assertIsInstance(told, Sinking)
        self.assertEqual(by_parts(TRADE, (0, (7, 1)), (0, (5, 2))).__class__, Sinking)
        program = Program(1, 1, ((0, (0,), (6,), 0),))
        self.assertEqual(by_parts(program, (0, (1,)), (0, (5,))), Flow(((2, 3),)))
        self.assertEqual(by_ratios(program, (0, (5,)), (0, (1,))), Ratios(((-2, 3),)))
        self.assertIsInstance(by_parts(program, (0, (5,)), (0, (1,))), Sinking)
        self.assertEqual(by_wholes(program, (0, (13,)), (0, (1,))), Wholes((-2,)))
        told = by_wholes(program, (0, (1,)), (0, (5,)))
        self.assertIsInstance(told, Steady)
        # The difference 4 is even: only 3 and 6 tell it from the multiples of 6.
        self.assertIn(told.n, (3, 6))

    def test_no_steps(self):
        for counters, locations in ((0, 1), (0, 2), (2, 1), (2, 2)):
            program = Program(counters, locations, ())
            one = (0, (3,) * counters)
            for kinds, call, _ in ALL:
                self.assertEqual(call(program, one, one), kinds[0](()))
            others = [(locations - 1, (3,) * counters), (0, (3,) * (counters - 1) + (4,))]
            for other in others:
                if other != one and len(other[1]) == counters:
                    for kinds, call, _ in ALL:
                        told = call(program, one, other)
                        self.assertIsInstance(told, kinds[1])
                        self.assertTrue(slow_judge(kinds, program, one, other, told))

    def test_ways_through_locations(self):
        for one, other, kinds in ((0, 1, (Flow, Wholes, Ratios)), (1, 0, (Flow, Wholes, Ratios)),
                                  (0, 0, (Flow, Wholes, Ratios)), (0, 2, (Sinking, Steady, Equal)),
                                  (2, 1, (Sinking, Steady, Equal)), (2, 2, (Flow, Wholes, Ratios))):
            for (_, call, _), kind in zip(ALL, kinds):
                self.assertIsInstance(call(ROUND, (one, ()), (other, ())), kind)
        # There and not back: the parts must be from 0 on.
        way = Program(0, 2, ((0, (), (), 1),))
        self.assertIsInstance(by_parts(way, (1, ()), (0, ())), Sinking)
        self.assertEqual(by_wholes(way, (1, ()), (0, ())), Wholes((-1,)))

    def test_drawn_ones(self):
        chance = random.Random(3)
        kinds_told = {}
        for _ in range(600):
            counters = chance.randrange(5)
            program = drawn_program(chance, counters, chance.choice((1, 4, 9)))
            one, other = drawn_pair(chance, program)
            for kinds, call, judge in ALL:
                told = call(program, one, other)
                self.assertTrue(slow_judge(kinds, program, one, other, told))
                self.assertIs(judge(program, one, other, told), True)
                self.assertEqual(told, call(program, one, other))
                kinds_told[type(told)] = kinds_told.get(type(told), 0) + 1
        self.assertEqual(len(kinds_told), 6)
        self.assertGreater(min(kinds_told.values()), 80)

    def test_runs_make_what_they_lead_to(self):
        chance = random.Random(4)
        for _ in range(150):
            program = drawn_program(chance, chance.randrange(1, 4))
            one = drawn_place(chance, program, 9)
            run = []
            for _ in range(12):
                steps = steps_at(program, behind_run(program, one, run))
                if steps:
                    run.append(chance.choice(steps))
            other = behind_run(program, one, run)
            for kinds, call, judge in ALL:
                self.assertIsInstance(call(program, one, other), kinds[0])
                row = tuple(run.count(k) for k in range(len(program.steps)))
                told = kinds[0](row if kinds is WHOLES else [(many, 1) for many in row])
                self.assertIs(judge(program, one, other, told), True)

    def test_weights_are_walls(self):
        chance = random.Random(5)
        walls = {Sinking: 0, Steady: 0, Equal: 0}
        for _ in range(150):
            program = drawn_program(chance, chance.randrange(4))
            one, other = drawn_pair(chance, program)
            for _, call, _ in ALL:
                told = call(program, one, other)
                if type(told) in walls:
                    c = weight_of(told.y, told.v, one)
                    if isinstance(told, Sinking):
                        lot = weights_below(told.y, told.v, c)
                    elif isinstance(told, Equal):
                        lot = weights_equal(told.y, told.v, c)
                    else:
                        lot = weights_like(told.y, told.v, told.n, c)
                    target = just_these(program.counters, program.locations, (other,))
                    reads = tuple(range(program.counters))
                    self.assertIs(is_wall(program, one, target, lot, reads), True)
                    walls[type(told)] += 1
        self.assertGreater(min(walls.values()), 20)


class Judges(Raising):
    def check(self, case, value, counts):
        for kinds, _, judge in ALL:
            truth = slow_judge(kinds, *case, value)
            self.assertIs(judge(*case, value), truth, vars(value))
            counts[truth] += 1

    def test_one_thing_changed(self):
        chance = random.Random(6)
        counts = {True: 0, False: 0}
        for _ in range(60):
            program = drawn_program(chance, chance.randrange(4))
            case = (program, *drawn_pair(chance, program))
            for _, call, _ in ALL:
                told = call(*case)
                fields = list(vars(told).values())
                for place, field in enumerate(fields):
                    for value in changed(field):
                        self.check(case, type(told)(*fields[:place], value, *fields[place + 1:]),
                                   counts)
                for kind in (Flow, Ratios, Wholes) if len(fields) == 1 else (Sinking, Equal):
                    self.check(case, kind(*fields[:2]), counts)
        self.assertGreater(counts[False], 5000)
        self.assertGreater(counts[True], 200)

    def test_ratios(self):
        program = Program(1, 1, ((0, (0,), (2,), 0), (0, (0,), (4,), 0)))
        case = (program, (0, (0,)), (0, (6,)))
        for z, truth in ((((3, 1), (0, 1)), True), (((1, 1), (1, 1)), True), (((1, 3), (4, 3)), True),
                         (([1, 3], [4, 3]), True), ([(3, 1), [0, 1]], True), (((3, 1), (0, 2)), False),
                         (((6, 2), (0, 1)), False), (((-3, -1), (0, 1)), False), (((3, 1),), False),
                         (((3, 1), (0, 1), (0, 1)), False), ((3, 0), False), (((3, True), (0, 1)), False),
                         (((3, 1), (False, 1)), False), (((3, 0), (0, 1)), False), (None, False),
                         ("ab", False), (((3, 1), None), False), (((3, 1), (0, 1, 1)), False)):
            self.assertIs(is_by_parts(*case, Flow(z)), truth, z)
            self.assertIs(is_by_ratios(*case, Ratios(z)), truth, z)
            self.assertIs(is_by_ratios(*case, Flow(z)), False)
            self.assertIs(is_by_parts(*case, Ratios(z)), False)
        self.assertIs(is_by_parts(*case, Flow(((5, 1), (-1, 1)))), False)
        self.assertIs(is_by_ratios(*case, Ratios(((5, 1), (-1, 1)))), True)
        self.assertIs(is_by_wholes(*case, Wholes((5, -1))), True)
        for z in ((5, -1, 0), (5,), (True, 1), ((5, 1), (-1, 1)), None, 5, (5.0, -1), ()):
            self.assertIs(is_by_wholes(*case, Wholes(z)), False)

    def test_weights(self):
        case = (TWO_MORE, (0, (0,)), (0, (1,)))
        for y, v, n, truth in (((1,), (0,), 2, True), ([3], [7], 2, True), ((1,), (0,), 1, False),
                               ((1,), (0,), 3, False), ((2,), (0,), 2, False), ((2,), (0,), 4, True),
                               ((True,), (0,), 2, False), ((1,), (False,), 2, False),
                               ((1, 0), (0,), 2, False), ((1,), (0, 0), 2, False), ((), (0,), 2, False),
                               ((1,), (), 2, False), ((1,), (0,), True, False), ((1,), (0,), -2, False),
                               ((1,), (0,), 0, False), ((1,), (0,), None, False), (1, 0, 2, False),
                               (None, (0,), 2, False), ((1,), (0,), (2,), False)):
            self.assertIs(is_by_wholes(*case, Steady(y, v, n)), truth, (y, v, n))
        back = (TWO_MORE, (0, (4,)), (0, (1,)))
        for y, v, truth in (((-1,), (0,), True), ((-5,), (9,), True), ((0,), (0,), False),
                            ((1,), (0,), False), ((-1,), (0, 0), False), ((-1,), (True,), False)):
            self.assertIs(is_by_parts(*back, Sinking(y, v)), truth)
            self.assertIs(is_by_ratios(*back, Equal(y, v)), False)
        for y, v, truth in (((1, -1), (0, -1), True), ((0, 0), (0, 0), False), ((1, 1), (0, 0), False),
                            ((-2, 2), (3, 5), True), ((1, -1), (0, 0), False)):
            self.assertIs(is_by_ratios(BY_TURNS, (0, (0, 0)), (0, (1, 0)), Equal(y, v)), truth)

    def test_any_values(self):
        case = (TWO_MORE, (0, (0,)), (0, (2,)))
        for told in (None, 0, True, "Flow", (), [], {}, ((1, 1),), (((1, 1),),), Flow, Lot, TWO_MORE,
                     object(), ((1,), (0,)), vars(Flow(((1, 1),)))):
            for _, _, judge in ALL:
                self.assertIs(judge(*case, told), False)

    def test_errors_in_order(self):
        for _, call, judge in ALL:
            for more, asked in (((), call), ((None,), judge), ((Flow(((1, 1),)),), judge)):
                for place in ([0, (0,)], (0, [0]), (1, (0,)), (0, (0, 0)), None, (0, (True,)),
                              (0, (-1,))):
                    fields = {"configuration": place}
                    self.wrong(BadConfiguration, fields, asked, TWO_MORE, place, None, *more)
                    self.wrong(BadConfiguration, fields, asked, TWO_MORE, (0, (0,)), place, *more)

    def test_steps_by_their_gains(self):
        # A step that is done changes the weight by its gain, whatever that is.
        chance = random.Random(7)
        for _ in range(60):
            program = drawn_program(chance, chance.randrange(4))
            y, v = drawn_weights(chance, program.counters, program.locations)
            place = drawn_place(chance, program, 9)
            for k in steps_at(program, place):
                there = next_one(program, place, k)
                self.assertEqual(weight_of(y, v, there) - weight_of(y, v, place),
                                 gains_of(program, y, v)[k])


if __name__ == "__main__":
    import unittest

    unittest.main()
