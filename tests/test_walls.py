"""[24] to [27]: what is ahead of a step and behind it, and walls."""

import random

from numberwall.errors import BadConfiguration, BadLot, BadNumber, BadReads
from numberwall.lots import Lot, all_in, all_of, is_in, join, just_these, left_out, meet, none_of
from numberwall.lots import spread
from numberwall.programs import Program, cut, next_one, run_to, turned
from numberwall.walls import ahead, behind, first_wrong, is_wall
from drawn_programs import BY_TURNS, ONE, ONE_AND_NONE, TURNS_WALL, TWO_MORE
from drawn_programs import drawn_place, drawn_program, drawn_target
from raising import Raising
from slow_lots import configurations, drawn_lot, order_of, slow_in, slow_least

NO_NATURALS = (True, False, None, "1", 1.0, -1, [1], (1,))
EVEN = Lot(1, ((1, 2), (1, 1), (2, 2)), (True, True, False), (0,))
# Steps that take and give the same counter, that take or give nothing, from a location to itself
# and to another one.
MIXED = Program(2, 3, ((0, (3, 0), (2, 1), 1), (0, (0, 0), (0, 0), 0), (1, (2, 2), (2, 2), 1),
                       (1, (0, 4), (0, 0), 0), (2, (0, 0), (4, 3), 0), (0, (1, 1), (0, 0), 2)))


def is_no_lot_of(counters, locations):
    """Values that are no Lot with so many counters and locations."""
    return (None, 5, (), "lot", all_of(counters + 1, locations), all_of(counters, locations + 1),
            (counters, ((0,),), (True,), (0,)), Program(counters, locations, ()))


class Aheads(Raising):
    def just_those(self, program, lot, k, bits):
        told = ahead(program, lot, k)
        self.assertEqual(told, slow_least(told))
        self.assertEqual((told.counters, len(told.begins)), (program.counters, program.locations))
        for place in configurations(program.counters, program.locations, bits):
            there = next_one(program, place, k)
            self.assertIs(slow_in(told, place), there is not None and slow_in(lot, there),
                          (program.steps[k], place))
        back = behind(program, lot, k)
        self.assertEqual(back, slow_least(back))
        self.assertEqual(back, ahead(turned(program), lot, k))
        undone = turned(program)
        for place in configurations(program.counters, program.locations, bits):
            there = next_one(undone, place, k)
            self.assertIs(slow_in(back, place), there is not None and slow_in(lot, there))
            self.assertIs(there is None or next_one(program, there, k) == place, True)

    def test_one_step(self):
        odd = left_out(EVEN)
        self.assertEqual(ahead(TWO_MORE, EVEN, 0), EVEN)
        self.assertEqual(ahead(TWO_MORE, odd, 0), odd)
        self.assertEqual(ahead(TWO_MORE, ONE, 0), none_of(1, 1))
        self.assertEqual(behind(TWO_MORE, ONE, 0), just_these(1, 1, ((0, (3,)),)))
        self.assertEqual(behind(TWO_MORE, all_of(1, 1), 0),
                         left_out(just_these(1, 1, ((0, (0,)), (0, (1,))))))

    def test_takes_and_gives_the_same_counter(self):
        held = Program(1, 1, ((0, (3,), (3,), 0),))
        self.assertEqual(ahead(held, EVEN, 0), meet(EVEN, left_out(just_these(1, 1, (
            (0, (0,)), (0, (1,)), (0, (2,)))))))
        self.assertEqual(ahead(held, EVEN, 0), behind(held, EVEN, 0))

    def test_each_kind_of_step(self):
        chance = random.Random(1)
        for k in range(len(MIXED.steps)):
            for _ in range(6):
                self.just_those(MIXED, drawn_lot(chance, 2, 3, chance.randrange(1, 6)), k, 3)
            self.just_those(MIXED, all_of(2, 3), k, 4)

    def test_drawn_programs(self):
        chance = random.Random(2)
        for _ in range(60):
            program = drawn_program(chance)
            lot = drawn_lot(chance, program.counters, program.locations, chance.randrange(1, 5))
            k = chance.randrange(len(program.steps))
            self.just_those(program, lot, k, (1, 5, 4, 3)[program.counters])

    def test_one_configuration(self):
        chance = random.Random(3)
        for _ in range(60):
            program = drawn_program(chance)
            place = drawn_place(chance, program, 1000)
            k = chance.randrange(len(program.steps))
            alone = just_these(program.counters, program.locations, (place,))
            there = next_one(program, place, k)
            told = just_these(program.counters, program.locations, () if there is None else (there,))
            self.assertEqual(behind(program, alone, k), told)
            there = next_one(turned(program), place, k)
            told = just_these(program.counters, program.locations, () if there is None else (there,))
            self.assertEqual(ahead(program, alone, k), told)

    def test_no_counters_and_great_steps(self):
        ring = Program(0, 2, ((0, (), (), 1),))
        self.assertEqual(ahead(ring, just_these(0, 2, ((1, ()),)), 0), just_these(0, 2, ((0, ()),)))
        self.assertEqual(ahead(ring, just_these(0, 2, ((0, ()),)), 0), none_of(0, 2))
        self.assertEqual(behind(ring, all_of(0, 2), 0), just_these(0, 2, ((1, ()),)))
        great = Program(1, 1, ((0, (900,), (77,), 0),))
        self.assertEqual(ahead(great, just_these(1, 1, ((0, (77,)), (0, (76,)), (0, (100,)))), 0),
                         just_these(1, 1, ((0, (900,)), (0, (923,)))))

    def test_errors_in_order(self):
        for call in (ahead, behind):
            for lot in is_no_lot_of(2, 3):
                self.wrong(BadLot, {"lot": lot}, call, MIXED, lot, -1)
            for k in (*NO_NATURALS, 6):
                fields = {"what": "step", "number": k}
                self.wrong(BadNumber, fields, call, MIXED, all_of(2, 3), k)
            fields = {"what": "step", "number": 0}
            self.wrong(BadNumber, fields, call, Program(0, 1, ()), all_of(0, 1), 0)


def slow_first_wrong(program, start, target, lot, reads, bits):
    """The first wrong thing, all configurations with numbers below 2 ** bits being tried."""
    def is_read_in(place):
        return slow_in(lot, (place[0], [place[1][i] for i in reads]))

    if not is_read_in(start):
        return ("start",)
    places = sorted(configurations(program.counters, program.locations, bits), key=order_of)
    for place in places:
        if is_read_in(place) and slow_in(target, place):
            return ("target", place)
    small = cut(program, reads)
    places = sorted(configurations(len(reads), program.locations, bits), key=order_of)
    for k, (here, takes, _, _) in enumerate(program.steps):
        for location, z in places:
            there = next_one(small, (location, z), k)
            if there is not None and slow_in(lot, (location, z)) and not slow_in(lot, there):
                x = list(takes)
                for i, number in zip(reads, z):
                    x[i] = number
                return ("step", k, (here, tuple(x)))
    return None


class Walls(Raising):
    def test_walls(self):
        for program, start, target, lot, reads in (
                (TWO_MORE, (0, (0,)), ONE, EVEN, (0,)),
                (TWO_MORE, (0, (100,)), ONE, EVEN, [0]),
                (BY_TURNS, (0, (0, 0)), ONE_AND_NONE, TURNS_WALL, (0, 1)),
                (TWO_MORE, (0, (2,)), none_of(1, 1), all_of(0, 1), ()),
                (TWO_MORE, (0, (2,)), none_of(1, 1), all_of(1, 1), (0,)),
                # The second counter alone, which is never 1.
                (Program(2, 1, ((0, (1, 0), (5, 2), 0),)), (0, (1, 0)),
                 just_these(2, 1, ((0, (7, 1)),)), EVEN, (1,))):
            self.assertIsNone(first_wrong(program, start, target, lot, reads))
            self.assertIs(is_wall(program, start, target, lot, reads), True)

    def test_each_thing_that_can_be_wrong(self):
        odd = left_out(EVEN)
        self.assertEqual(first_wrong(TWO_MORE, (0, (4,)), ONE, odd, (0,)), ("start",))
        # The start comes ahead of the target, and the target ahead of steps.
        self.assertEqual(first_wrong(TWO_MORE, (0, (0,)), all_of(1, 1), none_of(1, 1), (0,)),
                         ("start",))
        self.assertEqual(first_wrong(TWO_MORE, (0, (3,)), ONE, odd, (0,)), ("target", (0, (1,))))
        below_4 = just_these(1, 1, [(0, (x,)) for x in range(4)])
        self.assertEqual(first_wrong(TWO_MORE, (0, (0,)), ONE, below_4, (0,)), ("target", (0, (1,))))
        self.assertEqual(first_wrong(TWO_MORE, (0, (0,)), none_of(1, 1), below_4, (0,)),
                         ("step", 0, (0, (2,))))
        self.assertIs(is_wall(TWO_MORE, (0, (0,)), none_of(1, 1), below_4, (0,)), False)

    def test_the_least_in_both(self):
        target = just_these(2, 2, ((0, (4, 0)), (1, (2, 2)), (1, (3, 0)), (1, (2, 3))))
        # The read counter of all of them is even, or not looked at.
        stays = Program(2, 2, ())
        self.assertEqual(first_wrong(stays, (0, (0, 0)), target, all_of(0, 2), ()),
                         ("target", (1, (2, 2))))
        evens = Lot(1, EVEN.moves, EVEN.good, (0, 0))
        self.assertEqual(first_wrong(stays, (0, (0, 0)), target, evens, (1,)),
                         ("target", (1, (2, 2))))
        odds_at_1 = Lot(1, EVEN.moves + ((2, 1),), EVEN.good + (False,), (0, 3))
        self.assertEqual(first_wrong(stays, (0, (0, 0)), target, odds_at_1, (1,)),
                         ("target", (1, (2, 3))))
        self.assertEqual(first_wrong(stays, (0, (0, 0)), target, odds_at_1, (0,)),
                         ("target", (1, (3, 0))))

    def test_the_first_step_and_what_it_takes(self):
        program = Program(3, 1, ((0, (0, 5, 1), (0, 9, 1), 0), (0, (1, 7, 2), (0, 3, 4), 0),
                                 (0, (0, 1, 0), (0, 1, 0), 0)))
        evens = Lot(1, ((1, 2), (1, 1), (2, 2)), (True, True, False), (0,))
        start, nothing = (0, (0, 0, 0)), none_of(3, 1)
        # Step 0 changes nothing of counter 0, step 1 takes 1 of it: from 2 to 1.
        self.assertEqual(first_wrong(program, start, nothing, evens, (0,)),
                         ("step", 1, (0, (2, 7, 2))))
        # Of the others an even number is given, and what a step needs and gives back changes none.
        self.assertIsNone(first_wrong(program, start, nothing, evens, (1,)))
        self.assertIsNone(first_wrong(program, start, nothing, evens, (2,)))
        # 6 has a shorter word than 9 and 8, and 0 is not enough for the step.
        some_in = just_these(1, 1, ((0, (0,)), (0, (6,)), (0, (9,)), (0, (8,))))
        self.assertEqual(first_wrong(program, start, nothing, some_in, (1,)),
                         ("step", 0, (0, (0, 6, 1))))

    def test_drawn_lots_against_all_configurations(self):
        chance = random.Random(4)
        kinds = set()
        for _ in range(300):
            program = drawn_program(chance, counters=chance.choice((0, 1, 1, 2)), most=3)
            reads = sorted(chance.sample(range(program.counters),
                                         chance.randrange(program.counters + 1)))
            start, target = drawn_place(chance, program, 5), drawn_target(chance, program)
            lot = drawn_lot(chance, len(reads), program.locations, chance.choice((1, 2, 2, 3)))
            told = first_wrong(program, start, target, lot, reads)
            self.assertEqual(told, slow_first_wrong(program, start, target, lot, reads, 5))
            self.assertIs(is_wall(program, start, target, lot, reads), told is None)
            kinds.add(told if told is None else told[0])
        self.assertEqual(kinds, {None, "start", "target", "step"})

    def test_three_counters(self):
        chance = random.Random(5)
        for _ in range(60):
            program = drawn_program(chance, counters=3, most=2)
            reads = sorted(chance.sample(range(3), chance.randrange(4)))
            start, target = drawn_place(chance, program, 3), drawn_target(chance, program)
            lot = drawn_lot(chance, len(reads), program.locations, 2)
            told = first_wrong(program, start, target, lot, reads)
            self.assertEqual(told, slow_first_wrong(program, start, target, lot, reads, 3))

    def test_closed_by_finite_products(self):
        # Fact C: wrong at step k is what is in the lot and ahead of what it leaves out.
        chance = random.Random(6)
        for _ in range(60):
            program = drawn_program(chance, counters=2)
            reads = sorted(chance.sample(range(2), chance.randrange(3)))
            lot = drawn_lot(chance, len(reads), program.locations, 3)
            small = cut(program, reads)
            nothing = none_of(len(reads), program.locations)
            open_steps = [k for k in range(len(program.steps))
                          if meet(lot, ahead(small, left_out(lot), k)) != nothing]
            wide = spread(lot, 2, reads)
            starts = all_in(wide, 2)
            if starts:
                told = first_wrong(program, starts[0], none_of(2, program.locations), lot, reads)
                self.assertEqual(None if told is None else told[1],
                                 open_steps[0] if open_steps else None)
                if told is not None:
                    self.assertTrue(is_in(wide, told[2]))
                    self.assertFalse(is_in(wide, next_one(program, told[2], told[1])))

    def test_no_run_leads_through_a_wall(self):
        for x in range(10):
            self.assertIsNone(run_to(BY_TURNS, (0, (0, 0)), (0, (x + 1, x)), 8))

    def test_walls_met_joined_left_out_and_spread(self):
        program = Program(2, 1, ((0, (0, 0), (2, 0), 0), (0, (0, 1), (0, 0), 0)))
        start, goal = (0, (0, 4)), (0, (3, 5))
        target = just_these(2, 1, (goal,))
        evens = spread(EVEN, 2, (0,))
        # The second counter is below 5.
        small = just_these(1, 1, [(0, (x,)) for x in range(5)])
        walls = (evens, spread(small, 2, (1,)))
        for wall in (*walls, meet(*walls), join(*walls)):
            self.assertIs(is_wall(program, start, target, wall, (0, 1)), True)
            self.assertIs(is_wall(turned(program), goal, just_these(2, 1, (start,)), left_out(wall),
                                  (0, 1)), True)
        self.assertIs(is_wall(program, start, target, EVEN, (0,)), True)
        self.assertIs(is_wall(program, start, target, small, (1,)), True)
        self.assertIs(is_wall(program, start, target, EVEN, (1,)), False)

    def test_errors_in_order(self):
        right = (0, (0, 0))
        for call in (first_wrong, is_wall):
            for start in ([0, (0, 0)], (0, [0, 0]), (2, (0, 0)), (0, (0,)), None, (0, (0, True))):
                self.wrong(BadConfiguration, {"configuration": start}, call, BY_TURNS, start, None,
                           None, None)
            for target in is_no_lot_of(2, 2):
                self.wrong(BadLot, {"lot": target}, call, BY_TURNS, right, target, None, None)
            for reads in (None, (2,), (1, 0), (0, 0), (True,), "0", {}, (0, 1, 2), (-1,)):
                self.wrong(BadReads, {"reads": reads}, call, BY_TURNS, right, ONE_AND_NONE, None,
                           reads)
            for reads in ((), (0,), [1], (0, 1)):
                for lot in is_no_lot_of(len(reads), 2):
                    self.wrong(BadLot, {"lot": lot}, call, BY_TURNS, right, ONE_AND_NONE, lot, reads)

    def test_nothing_passed_is_changed(self):
        reads = [0, 1]
        before = (TURNS_WALL.moves, ONE_AND_NONE.moves, BY_TURNS.steps)
        self.assertIsNone(first_wrong(BY_TURNS, (0, (0, 0)), ONE_AND_NONE, TURNS_WALL, reads))
        self.assertEqual(reads, [0, 1])
        self.assertEqual((TURNS_WALL.moves, ONE_AND_NONE.moves, BY_TURNS.steps), before)


if __name__ == "__main__":
    import unittest

    unittest.main()
