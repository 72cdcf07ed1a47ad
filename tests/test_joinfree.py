"""[45] to [48]: nets without joins, fed supports, runs by counts, and all that is reached."""

import itertools
import random

from numberwall.errors import BadConfiguration, BadLot, BadNumber, NotOfKind
from numberwall.joinfree import counts_to, fed_supports, is_fed, need_joinless, reached
from numberwall.joinfree import run_by_counts, run_into
from numberwall.lots import Lot, all_in, all_of, is_in, just_these, least_in, meet, none_of
from numberwall.programs import Program, behind_run, next_one, steps_at
from numberwall.walls import is_wall
from drawn_programs import BY_TURNS, TWO_MORE
from raising import Raising
from slow_joinfree import search, slow_is_fed, some_run
from slow_lots import drawn_lot, order_of, slow_least

# From nothing comes a token on counter 0; 0 gives two on 1; 1 goes.
SPRING = Program(2, 1, ((0, (0, 0), (1, 0), 0), (0, (1, 0), (0, 2), 0), (0, (0, 1), (0, 0), 0)))
# 0 gives to 1, 1 gives to 2, and 2 gives two to 0: a round.
WHEEL = Program(3, 1, ((0, (1, 0, 0), (0, 1, 0), 0), (0, (0, 1, 0), (0, 0, 1), 0),
                       (0, (0, 0, 1), (2, 0, 0), 0)))
EMPTY = Program(0, 1, ((0, (), (), 0),))
NO_CONFIGURATIONS = ([0, (0, 0)], (0, [0, 0]), (1, (0, 0)), (0, (0,)), None, (0, (True, 0)),
                     (0, (-1, 0)), (0, (0, 0), 0))
# How many counters and steps nets have, as many as are asked for.
SIZES = ((0, 2), (1, 4), (2, 3), (2, 4), (3, 3))


def drawn_net(chance, counters, steps, most=3):
    found = []
    for _ in range(steps):
        takes = [0] * counters
        if counters and chance.random() < 0.85:
            takes[chance.randrange(counters)] = 1
        gives = [chance.choice((0, chance.randint(0, most))) for _ in range(counters)]
        found.append((0, takes, gives, 0))
    return Program(counters, 1, found)


def drawn_cases(seed, many, sizes=SIZES):
    chance = random.Random(seed)
    for _ in range(many):
        counters, steps = chance.choice(sizes)
        program = drawn_net(chance, counters, chance.randint(1, steps))
        yield (program, (0, tuple(chance.choice((0, 0, chance.randint(0, 7)))
                                  for _ in range(counters))))


class Supports(Raising):
    def test_nets_and_others(self):
        for program in (SPRING, WHEEL, EMPTY, TWO_MORE, Program(3, 1, ())):
            self.assertIsNone(need_joinless(program))
        join = Program(2, 1, ((0, (1, 0), (9, 9), 0), (0, (1, 1), (0, 0), 0)))
        double = Program(2, 1, ((0, (0, 2), (0, 0), 0),))
        for program, why in ((BY_TURNS, "locations"), (Program(0, 2, ()), "locations"),
                             (Program(2, 2, join.steps), "locations"), (join, "joins"),
                             (double, "joins")):
            self.wrong(NotOfKind, {"why": why}, need_joinless, program)
            for call, more in ((is_fed, 2), (fed_supports, 1), (run_by_counts, 2), (reached, 1),
                               (counts_to, 2), (run_into, 2)):
                self.wrong(NotOfKind, {"why": why}, call, program, *[None] * more)

    def test_examples(self):
        for start, fed in (((0, 0), ((), (0,), (0, 1), (0, 1, 2))),
                           ((1, 0), ((), (0,), (0, 1), (0, 1, 2), (1,), (1, 2))),
                           ((0, 1), ((), (0,), (0, 1), (0, 1, 2), (0, 2), (2,)))):
            self.assertEqual(fed_supports(SPRING, (0, start)), fed)
            for many in range(4):
                for support in itertools.combinations(range(3), many):
                    self.assertIs(is_fed(SPRING, (0, start), support), support in fed)
                    self.assertIs(is_fed(SPRING, (0, start), list(support)), support in fed)
        # A round does not feed itself.
        self.assertEqual(fed_supports(WHEEL, (0, (0, 0, 0))), ((),))
        self.assertEqual(fed_supports(WHEEL, (0, (0, 9, 0))), ((), (0, 1, 2), (1,), (1, 2)))
        self.assertEqual(fed_supports(EMPTY, (0, ())), ((), (0,)))
        self.assertEqual(fed_supports(Program(1, 1, ()), (0, (0,))), ((),))

    def test_drawn_ones(self):
        for program, start in drawn_cases(1, 120):
            steps = range(len(program.steps))
            every = [support for many in range(len(program.steps) + 1)
                     for support in itertools.combinations(steps, many)]
            fed = [support for support in every if slow_is_fed(program, start[1], support)]
            self.assertEqual(fed_supports(program, start), tuple(sorted(fed)))
            for support in every:
                self.assertIs(is_fed(program, start, support), support in fed)

    def test_fact_a_the_steps_of_a_run_are_fed(self):
        chance = random.Random(2)
        for program, start in drawn_cases(3, 80):
            here, done = start, set()
            for _ in range(8):
                steps = steps_at(program, here)
                if steps:
                    k = chance.choice(steps)
                    here = next_one(program, here, k)
                    done.add(k)
                    self.assertIs(is_fed(program, start, tuple(sorted(done))), True)

    def test_errors_in_order(self):
        for place in NO_CONFIGURATIONS:
            fields = {"configuration": place}
            self.wrong(BadConfiguration, fields, is_fed, SPRING, place, None)
            self.wrong(BadConfiguration, fields, fed_supports, SPRING, place)
        for support in (None, 5, "0", {}, (3,), (-1,), (1, 0), (0, 0), (True,), (0, None), ((0,),),
                        (0.0,), [2, 1]):
            self.wrong(BadNumber, {"what": "support", "number": support}, is_fed, SPRING, (0, (0, 0)),
                       support)


class Counts(Raising):
    def check(self, program, start, counts):
        run = run_by_counts(program, start, counts)
        slow = some_run(program, start, tuple(counts))
        self.assertEqual(run is None, slow is None, (program.steps, start, counts))
        if run is not None:
            self.assertIsInstance(run, tuple)
            behind_run(program, start, run)
            self.assertEqual([run.count(k) for k in range(len(program.steps))], list(counts))
        return run

    def test_examples(self):
        self.assertEqual(run_by_counts(SPRING, (0, (0, 0)), (0, 0, 0)), ())
        self.assertEqual(run_by_counts(SPRING, (0, (0, 0)), [1, 1, 2]), (0, 1, 2, 2))
        # Not fed; or a counter would end below 0.
        for counts in ((0, 1, 0), (0, 0, 1), (1, 0, 1)):
            self.assertIsNone(run_by_counts(SPRING, (0, (0, 0)), counts))
        for counts in ((1, 2, 0), (1, 1, 3), (1, 2, 4)):
            self.assertIsNone(run_by_counts(SPRING, (0, (0, 0)), counts))
        # All sums are from 0 on, but the round is not fed.
        self.assertIsNone(run_by_counts(WHEEL, (0, (0, 0, 0)), (2, 2, 2)))
        self.assertEqual(run_by_counts(EMPTY, (0, ()), (3,)), (0, 0, 0))
        self.assertEqual(run_by_counts(Program(1, 1, ()), (0, (2,)), ()), ())

    def test_rounds_that_are_put_in_behind(self):
        # The token of counter 0 is used up first: the rounds through it must come ahead of that.
        program = Program(2, 1, ((0, (1, 0), (0, 0), 0), (0, (1, 0), (0, 1), 0),
                                 (0, (0, 1), (1, 0), 0)))
        for often in range(6):
            self.assertIsNotNone(self.check(program, (0, (1, 0)), (1, often, often)))
        # Two rounds that hang together by the second counter, whatever their numbers are.
        steps = (((1, 0, 0), (0, 0, 0)), ((1, 0, 0), (0, 1, 0)), ((0, 1, 0), (1, 0, 0)),
                 ((0, 1, 0), (0, 0, 1)), ((0, 0, 1), (0, 1, 0)))
        for order in itertools.permutations(range(3)):
            program = Program(3, 1, [(0, [takes[i] for i in order], [gives[i] for i in order], 0)
                                     for takes, gives in steps])
            start = (0, tuple((1, 0, 0)[i] for i in order))
            for counts in itertools.product(range(2), range(3), range(3), range(3), range(3)):
                self.check(program, start, counts)

        # Two rounds through the first counter, of which neither comes to the other one.
        program = Program(3, 1, ((0, (1, 0, 0), (0, 0, 0), 0), (0, (1, 0, 0), (0, 1, 0), 0),
                                 (0, (0, 1, 0), (1, 0, 0), 0), (0, (1, 0, 0), (0, 0, 1), 0),
                                 (0, (0, 0, 1), (1, 0, 0), 0)))
        for counts in itertools.product(range(2), range(3), range(3), range(3), range(3)):
            self.check(program, (0, (1, 0, 0)), counts)

    def test_drawn_ones(self):
        chance = random.Random(4)
        told = {True: 0, False: 0}
        for program, start in drawn_cases(5, 250, ((1, 4), (2, 4), (3, 4))):
            for _ in range(6):
                counts = tuple(chance.choice((0, 0, 1, chance.randint(0, 6)))
                               for _ in program.steps)
                if sum(counts) <= 16:
                    told[self.check(program, start, counts) is None] += 1
        self.assertGreater(min(told.values()), 200)

    def test_counts_of_runs(self):
        chance = random.Random(6)
        for program, start in drawn_cases(7, 150):
            run = []
            for _ in range(40):
                steps = steps_at(program, behind_run(program, start, run))
                if steps:
                    run.append(chance.choice(steps))
            counts = [run.count(k) for k in range(len(program.steps))]
            other = run_by_counts(program, start, counts)
            self.assertEqual(behind_run(program, start, other), behind_run(program, start, run))
            self.assertEqual(sorted(other), sorted(run))

    def test_errors_in_order(self):
        for place in NO_CONFIGURATIONS:
            self.wrong(BadConfiguration, {"configuration": place}, run_by_counts, SPRING, place, None)
        for counts in (None, 5, "000", {}, (), (0, 0), (0, 0, 0, 0), (0, -1, 0), (0, True, 0),
                       (0, None, 0), (0, 1.0, 0), ((0,), 0, 0), [0, 0, "0"]):
            self.wrong(BadNumber, {"what": "counts", "number": counts}, run_by_counts, SPRING,
                       (0, (0, 0)), counts)


class Reached(Raising):
    def test_examples(self):
        even = Lot(1, ((0, 1), (1, 1)), (True, False), (0,))
        self.assertEqual(reached(TWO_MORE, (0, (0,))),
                         Lot(1, ((1, 2), (1, 1), (2, 2)), (True, True, False), (0,)))
        self.assertFalse(reached(TWO_MORE, (0, (0,))) == even)
        self.assertEqual(reached(SPRING, (0, (0, 0))), all_of(2, 1))
        self.assertEqual(reached(EMPTY, (0, ())), all_of(0, 1))
        self.assertEqual(reached(Program(2, 1, ()), (0, (3, 5))), just_these(2, 1, ((0, (3, 5)),)))
        # A round that is not fed, and one that is: what is given is never less.
        self.assertEqual(reached(WHEEL, (0, (0, 0, 0))), just_these(3, 1, ((0, (0, 0, 0)),)))
        lot = reached(WHEEL, (0, (1, 0, 0)))
        self.assertEqual(all_in(lot, 1), tuple((0, x) for x in itertools.product((0, 1), repeat=3)
                                               if sum(x) > 0))

    def test_against_a_search(self):
        for program, start in drawn_cases(8, 120):
            lot = reached(program, start)
            self.assertEqual(lot, slow_least(lot))
            self.assertEqual((lot.counters, len(lot.begins)), (program.counters, 1))
            # It is closed and has the start in: so what is not in is never reached.
            reads = tuple(range(program.counters))
            self.assertIs(is_wall(program, start, none_of(program.counters, 1), lot, reads), True)
            for place in search(program, start, 9):
                self.assertIs(is_in(lot, place), True)
            # And to all else that is in leads a run.
            for place in all_in(lot, 3 if program.counters < 3 else 2):
                counts = counts_to(program, start, place)
                run = run_by_counts(program, start, counts)
                self.assertEqual(behind_run(program, start, run), place)

    def test_counts_to(self):
        chance = random.Random(9)
        told = {True: 0, False: 0}
        for program, start in drawn_cases(10, 150):
            lot = reached(program, start)
            for _ in range(12):
                goal = (0, tuple(chance.randint(0, 20) for _ in range(program.counters)))
                counts = counts_to(program, start, goal)
                self.assertEqual(counts is not None, is_in(lot, goal))
                told[counts is None] += 1
                if counts is not None:
                    self.assertIsInstance(counts, tuple)
                    support = tuple(k for k, often in enumerate(counts) if often)
                    self.assertIs(is_fed(program, start, support), True)
                    sums = [s + sum(often * (step[2][i] - step[1][i])
                                    for often, step in zip(counts, program.steps))
                            for i, s in enumerate(start[1])]
                    self.assertEqual(tuple(sums), goal[1])
                self.assertEqual(counts, counts_to(program, start, goal))
        self.assertGreater(min(told.values()), 200)

    def test_counts_to_nearly(self):
        # 2 and 5 together make all but 1 and 3.
        program = Program(1, 1, ((0, (0,), (2,), 0), (0, (0,), (5,), 0)))
        for x in range(20):
            self.assertEqual(counts_to(program, (0, (0,)), (0, (x,))) is None, x in (1, 3))
        # The tokens never get less: a search that lets by 9 of them tells all up to there.
        found = search(WHEEL, (0, (0, 2, 0)), 9)
        self.assertTrue((0, (0, 3, 0)) in found and (0, (1, 1, 0)) not in found)
        for x in itertools.product(range(4), repeat=3):
            counts = counts_to(WHEEL, (0, (0, 2, 0)), (0, x))
            self.assertEqual(counts is not None, (0, x) in found)
        self.assertEqual(counts_to(SPRING, (0, (3, 4)), (0, (3, 4))), (0, 0, 0))
        self.assertEqual(counts_to(EMPTY, (0, ()), (0, ())), (0,))

    def test_two_ways_to_feed_one_counter(self):
        # Two steps give to the first counter, two take from it; each leaves something of its own.
        program = Program(4, 1, ((0, (0,) * 4, (1, 0, 0, 1), 0), (0, (0,) * 4, (1, 1, 0, 0), 0),
                                 (0, (1, 0, 0, 0), (0, 0, 0, 0), 0),
                                 (0, (1, 0, 0, 0), (0, 0, 1, 0), 0)))
        start = (0, (0,) * 4)
        for counts in itertools.product(range(3), repeat=4):
            a, c, b, d = counts
            if a + c >= b + d:
                goal = (0, (a + c - b - d, c, d, a))
                self.assertEqual(counts_to(program, start, goal), counts)
                self.assertEqual(behind_run(program, start, run_by_counts(program, start, counts)),
                                 goal)
            else:
                self.assertIsNone(run_by_counts(program, start, counts))
        self.assertIsNone(counts_to(program, start, (0, (0, 0, 1, 0))))

    def test_run_into(self):
        chance = random.Random(11)
        told = {True: 0, False: 0}
        for program, start in drawn_cases(12, 200):
            target = drawn_lot(chance, program.counters, 1, chance.choice((1, 3, 10, 40)))
            run = run_into(program, start, target)
            both = meet(reached(program, start), target)
            told[run is None] += 1
            if run is None:
                self.assertIsNone(least_in(both))
                lot = reached(program, start)
                self.assertIs(is_wall(program, start, target, lot,
                                      tuple(range(program.counters))), True)
            else:
                goal = behind_run(program, start, run)
                self.assertEqual(goal, least_in(both))
                near = [place for place in search(program, start, 8) if is_in(target, place)]
                self.assertTrue(all(order_of(goal) <= order_of(place) for place in near))
        self.assertGreater(min(told.values()), 20)

    def test_run_into_far_targets(self):
        chance = random.Random(13)
        runs = 0
        for program, start in drawn_cases(14, 300, ((1, 4), (2, 4), (3, 3))):
            places = [(0, tuple(chance.randint(500, 1000) for _ in range(program.counters)))
                      for _ in range(2)]
            run = run_into(program, start, just_these(program.counters, 1, places))
            if run is not None:
                runs += 1
                self.assertIn(behind_run(program, start, run), places)
        self.assertGreater(runs, 5)

    def test_errors_in_order(self):
        for place in NO_CONFIGURATIONS:
            fields = {"configuration": place}
            self.wrong(BadConfiguration, fields, reached, SPRING, place)
            self.wrong(BadConfiguration, fields, counts_to, SPRING, place, None)
            self.wrong(BadConfiguration, fields, counts_to, SPRING, (0, (0, 0)), place)
            self.wrong(BadConfiguration, fields, run_into, SPRING, place, None)
        for target in (None, 5, "lot", (), all_of(1, 1), all_of(3, 1), all_of(2, 2), SPRING):
            self.wrong(BadLot, {"lot": target}, run_into, SPRING, (0, (0, 0)), target)

    def test_nothing_passed_is_changed(self):
        support, counts = [0, 1], [1, 1, 1]
        is_fed(SPRING, (0, (0, 0)), support)
        run_by_counts(SPRING, (0, (0, 0)), counts)
        self.assertEqual((support, counts), ([0, 1], [1, 1, 1]))


if __name__ == "__main__":
    import unittest

    unittest.main()
