"""[49] to [52]: crowds of processes, their programs, and formulas about them."""

import random

from numberwall.errors import BadNumber, BadProgram, BadStep
from numberwall.formulas import holds, is_formula, lot_of
from numberwall.lots import is_in
from numberwall.processes import Crowd, all_at, alone, check_crowd, counter_of, program_of, row_of
from numberwall.processes import start_of, stuck
from numberwall.programs import Program, next_one
from numberwall.settling import Run, Wall, settle
from raising import Raising
from slow_crowds import Played, drawn_crowd

ROW = (0, (), 0)
# Two kinds: two processes that take the lock, go to place 1 and free it; one that begins others.
LOCKED = Crowd(((2, (2, 0), ((0, (("take", 0),), 1), (1, (("free", 0),), 0))),
                (1, (1,), ((0, (("new", 0, 0), ("new", 0, 0), ("new", 1, 0)), 0),))), 1, ())
# One that puts into the buffers, one that gets; the first buffer has room for two.
BUFFERED = Crowd(((1, (1,), ((0, (("put", 0), ("get", 1)), 0),)),
                  (2, (3, 1), ((0, (("get", 0), ("put", 1), ("take", 1), ("free", 1)), 1),
                               (1, (), 0)))), 2, (2, None))
EMPTY = Crowd(((1, (0,), ()),), 0, ())
NO_NATURALS = (True, False, None, "1", 1.0, -1)
CALLS = ((program_of, ()), (start_of, ()), (counter_of, (None,)), (row_of, (None,)),
         (alone, (None,)), (all_at, (None,)), (stuck, ()), (check_crowd, ()))


class Crowds(Raising):
    def test_what_they_keep(self):
        crowd = Crowd([[1, [2], [[0, [["take", 0]], 0]]]], 1, [None, 3])
        self.assertEqual(vars(crowd), {"kinds": ((1, (2,), ((0, (("take", 0),), 0),)),), "locks": 1,
                                       "buffers": (None, 3)})
        self.assertEqual(vars(Crowd(None, "a", {})), {"kinds": None, "locks": "a", "buffers": {}})
        self.assertTrue(crowd == Crowd(crowd.kinds, 1, (None, 3)))
        for other in (Crowd(crowd.kinds, 2, (None, 3)), Crowd(crowd.kinds, 1, (None,)),
                      Crowd((), 1, (None, 3)), (crowd.kinds, 1, (None, 3)), None):
            self.assertFalse(crowd == other)
            self.assertTrue(crowd != other)

    def test_right_ones(self):
        for crowd in (LOCKED, BUFFERED, EMPTY, Crowd([[1, [9], [[0, [["put", 0]], 0]]]], 0, [0]),
                      # A lock freed and taken by one row, and processes of its own kind begun.
                      Crowd(((1, (1,), ((0, (("free", 0), ("take", 0), ("new", 0, 0),
                                            ("new", 0, 0)), 0),)),), 1, ())):
            self.assertIsNone(check_crowd(crowd))

    def wrong_crowd(self, kind, fields, crowd):
        for call, more in CALLS:
            self.wrong(kind, fields, call, crowd, *more)

    def test_wrong_numbers_in_order(self):
        for number in NO_NATURALS:
            fields = {"what": "locks", "number": number}
            self.wrong_crowd(BadNumber, fields, Crowd(None, number, None))
        self.wrong_crowd(BadNumber, {"what": "locks", "number": (1,)}, Crowd(EMPTY.kinds, [1], ()))
        for buffers in (None, 3, "12", {}, (None, -1), (True,), (1.0,), ("1",), ((1,),), (None, ())):
            fields = {"what": "buffers", "number": buffers}
            self.wrong_crowd(BadNumber, fields, Crowd(None, 0, buffers))
        for kinds in (None, 1, "kinds", {}, ()):
            self.wrong_crowd(BadNumber, {"what": "kinds", "number": kinds}, Crowd(kinds, 0, (1,)))

    def test_wrong_kinds(self):
        for kind in (None, 5, "abc", (), (1,), (1, (1,)), (1, (1,), (), ()), (0, (), ()),
                     (-1, (), ()), (True, (1,), ()), ("1", (1,), ()), (1.0, (1,), ()), (None, (1,), ()),
                     (1, (), ()), (1, (1, 1), ()), (2, (1,), ()), (1, (-1,), ()), (1, (True,), ()),
                     (1, ("1",), ()), (1, None, ()), (1, 1, ()), (1, "1", ()), (1, (1,), None),
                     (1, (1,), 0), (1, (1,), "rows"), (1, (1,), {})):
            for more in range(3):
                crowd = Crowd((EMPTY.kinds[0],) * more + (kind, None), 0, ())
                self.wrong_crowd(BadProgram, {"index": (more, None)}, crowd)

    def test_wrong_rows(self):
        for row in (None, 5, "abc", (), (0, ()), (0, (), 0, 0), (2, (), 0), (0, (), 2), (-1, (), 0),
                    (0, (), -1), (True, (), 0), (0, (), False), ("0", (), 0), (0, None, 0), (0, 5, 0),
                    (0, "", 0), (None, (), 0)):
            for more in range(3):
                kind = (2, (1, 1), (ROW,) * more + (row, None))
                self.wrong_crowd(BadProgram, {"index": (0, more)}, Crowd((kind, None), 0, ()))
                self.wrong_crowd(BadProgram, {"index": (1, more)}, Crowd((EMPTY.kinds[0], kind), 0, ()))

    def test_wrong_acts(self):
        for act in (None, 5, "take", "", (), ("take",), ("take", 0, 0), ("take", 2), ("take", -1),
                    ("take", True), ("take", None), ("take", "0"), ("free", 2), ("free",), ("put", 2),
                    ("put",), ("put", -1), ("put", 0, 0), ("get", 2), ("get", False), ("get", 0.0),
                    ("new", 0), ("new", 0, 1), ("new", 1, 2), ("new", 2, 0), ("new", -1, 0),
                    ("new", 0, -1), ("new", True, 0), ("new", 0, False), ("new", 0, 0, 0), ("give", 0),
                    (0, 0), (None, 0), (("take",), 0), ("Take", 0), ({}, 0), (b"take", 0), ("room", 0)):
            kinds = ((1, (1,), (ROW, (0, (("take", 0), act), 0))), (2, (0, 0), ()))
            self.wrong_crowd(BadProgram, {"index": (0, 1)}, Crowd(kinds, 2, (None, 2)))

    def test_acts_that_bar_each_other(self):
        for acts in ((("take", 0), ("take", 0)), (("free", 1), ("take", 0), ("free", 1)),
                     (("put", 0), ("put", 0)), (("get", 1), ("get", 1)), (("put", 1), ("get", 1)),
                     (("get", 0), ("take", 0), ("put", 0))):
            kinds = ((1, (1,), ((0, acts, 0),)),)
            self.wrong_crowd(BadProgram, {"index": (0, 0)}, Crowd(kinds, 2, (None, 2)))
        for acts in ((("take", 0), ("free", 0)), (("take", 0), ("take", 1)), (("put", 0), ("get", 1)),
                     (("put", 0), ("take", 0)), (("new", 0, 0),) * 3):
            kinds = ((1, (1,), ((0, acts, 0),)),)
            self.assertIsNone(check_crowd(Crowd(kinds, 2, (None, 2))))

    def test_kinds_are_looked_at_in_order(self):
        # The first kind names places of the second one, of which only how many it says count.
        for second, index in (((2, None, None), (1, None)), ((2, (1, 1), (None,)), (1, 0)),
                              ((1, (1,), ()), (0, 0)), (None, (0, 0)), ((0, (), ()), (0, 0))):
            kinds = ((1, (1,), ((0, (("new", 1, 1),), 0),)), second)
            self.wrong_crowd(BadProgram, {"index": index}, Crowd(kinds, 0, ()))
        # What is no kind at all has no place.
        for second in (None, (), "1", ("1", (1,), ()), (True, (1,), ()), (-1, (), ()), (0, (), ())):
            kinds = ((1, (1,), ((0, (("new", 1, 0),), 0),)), second)
            self.wrong_crowd(BadProgram, {"index": (0, 0)}, Crowd(kinds, 0, ()))


class Programs(Raising):
    def test_locked(self):
        self.assertEqual(program_of(LOCKED), Program(4, 1, (
            (0, (1, 0, 0, 1), (0, 1, 0, 0), 0), (0, (0, 1, 0, 0), (1, 0, 0, 1), 0),
            (0, (0, 0, 1, 0), (2, 0, 2, 0), 0))))
        self.assertEqual(start_of(LOCKED), (0, (2, 0, 1, 1)))

    def test_buffered(self):
        # The places 0, 1, 2; the locks 3, 4; the buffers 5, 6; the room of the first one 7.
        self.assertEqual(program_of(BUFFERED), Program(8, 1, (
            (0, (1, 0, 0, 0, 0, 0, 1, 1), (1, 0, 0, 0, 0, 1, 0, 0), 0),
            (0, (0, 1, 0, 0, 1, 1, 0, 0), (0, 0, 1, 0, 1, 0, 1, 1), 0),
            (0, (0, 0, 1, 0, 0, 0, 0, 0), (0, 1, 0, 0, 0, 0, 0, 0), 0))))
        self.assertEqual(start_of(BUFFERED), (0, (1, 3, 1, 1, 1, 0, 0, 2)))

    def test_smallest(self):
        self.assertEqual(program_of(EMPTY), Program(1, 1, ()))
        self.assertEqual(start_of(EMPTY), (0, (0,)))

    def test_counters_and_rows(self):
        for what, number in ((("place", 0, 0), 0), (("place", 1, 0), 1), (("place", 1, 1), 2),
                             (("lock", 0), 3), (("lock", 1), 4), (("buffer", 0), 5),
                             (("buffer", 1), 6), (("room", 0), 7), (["room", 0], 7)):
            self.assertEqual(counter_of(BUFFERED, what), number)
        for what in (None, 5, "place", (), ("place",), ("place", 0), ("place", 0, 1), ("place", 2, 0),
                     ("place", 1, -1), ("place", True, 0), ("place", 0, False), ("place", 0, 0, 0),
                     ("lock", 2), ("lock", -1), ("lock", False), ("lock",), ("lock", None),
                     ("buffer", 2), ("buffer", 0.0), ("room", 1), ("room", 2), ("room",), ["room", 1],
                     ("new", 0), (0, 0), (["lock"], 0), ("lock", [0]), {}, ("lock", "0")):
            self.wrong(BadNumber, {"what": "what", "number": what}, counter_of, BUFFERED, what)
        for step, row in enumerate(((0, 0), (1, 0), (1, 1))):
            self.assertEqual(row_of(BUFFERED, step), row)
        for step in (3, -1, True, None, "0", 0.0, (0,)):
            self.wrong(BadStep, {"index": step}, row_of, BUFFERED, step)
        self.wrong(BadStep, {"index": 0}, row_of, EMPTY, 0)

    def test_fact_a_played_process_by_process(self):
        chance = random.Random(1)
        done = {True: 0, False: 0}
        for _ in range(150):
            crowd = drawn_crowd(chance)
            program, here = program_of(crowd), start_of(crowd)
            played = Played(crowd)
            self.assertEqual(here, (0, played.counted()))
            for _ in range(15):
                for k in range(len(program.steps)):
                    there = next_one(program, here, k)
                    self.assertEqual(there is not None, played.can_go_on(*row_of(crowd, k)))
                if program.steps:
                    k = chance.randrange(len(program.steps))
                    there = next_one(program, here, k)
                    self.assertIs(played.goes_on(*row_of(crowd, k)), there is not None)
                    done[there is not None] += 1
                    here = here if there is None else there
                self.assertEqual(here, (0, played.counted()))
                # Fact B: what is held and the room left are the room at all times.
                for b, room in enumerate(crowd.buffers):
                    if room is not None:
                        held = here[1][counter_of(crowd, ("buffer", b))]
                        self.assertEqual(held + here[1][counter_of(crowd, ("room", b))], room)
        self.assertGreater(min(done.values()), 200)


class Formulas(Raising):
    def test_alone(self):
        self.assertEqual(alone(BUFFERED, ((1, 1), (0, 0))),
                         ("not", ("less", (1, ()), (0, ((0, 1), (2, 1))))))
        self.assertEqual(alone(BUFFERED, [[1, 0]]), ("not", ("less", (1, ()), (0, ((1, 1),)))))
        self.assertEqual(alone(BUFFERED, ()), ("not", ("less", (1, ()), (0, ()))))
        for places in (None, 5, "ab", (0, 0), ((0, 0), (0, 0)), ((0, 0), [0, 0]), ((0, 1),), ((2, 0),),
                       ((1, 2),), ((1, -1),), ((1, True),), ((True, 0),), ((1,),), ((1, 0, 0),), (None,),
                       (("place", 1, 0),), [[1, 0], None], ({},)):
            self.wrong(BadNumber, {"what": "places", "number": places}, alone, BUFFERED, places)

    def test_all_at(self):
        self.assertEqual(all_at(BUFFERED, (1, 0)), ("equal", (0, ((2, 1),)), (0, ())))
        self.assertEqual(all_at(BUFFERED, [1, 1]), ("equal", (0, ((1, 1),)), (0, ())))
        self.assertEqual(all_at(BUFFERED, (0, 0)), ("equal", (0, ()), (0, ())))
        three = Crowd(((1, (1,), ()), (3, (1, 1, 1), ())), 0, ())
        self.assertEqual(all_at(three, (1, 1)), ("equal", (0, ((1, 1), (3, 1))), (0, ())))
        for place in (None, 5, "ab", (), (1,), (0, 1), (2, 0), (1, 2), (-1, 0), (1, -1), (True, 0),
                      (1, False), (1, 0, 0), ((1, 0),), ("place", 1, 0), {}):
            self.wrong(BadNumber, {"what": "place", "number": place}, all_at, BUFFERED, place)

    def test_stuck(self):
        def less(i):
            return ("less", (0, ((i, 1),)), (1, ()))

        self.assertEqual(stuck(LOCKED), ("and", ("and", ("or", less(0), less(3)), less(1)), less(2)))
        self.assertEqual(stuck(BUFFERED), ("and", ("and", ("or", ("or", less(0), less(6)), less(7)),
                                                   ("or", ("or", less(1), less(4)), less(5))), less(2)))
        self.assertEqual(stuck(EMPTY), ("equal", (0, ()), (0, ())))

    def test_what_they_say_behind_runs(self):
        chance = random.Random(2)
        seen = {}
        for _ in range(120):
            crowd = drawn_crowd(chance)
            program = program_of(crowd)
            played = Played(crowd)
            pairs = [(kind, place) for kind, (places, _, _) in enumerate(crowd.kinds)
                     for place in range(places)]
            for _ in range(8):
                x = played.counted()
                some = chance.sample(pairs, chance.randint(0, len(pairs)))
                kind, place = chance.choice(pairs)
                rows = [row_of(crowd, k) for k in range(len(program.steps))]
                for formula, truth in (
                        (alone(crowd, some), sum(one in some for one in played.processes) <= 1),
                        (all_at(crowd, (kind, place)), all(one == (kind, place) for one in
                                                           played.processes if one[0] == kind)),
                        (stuck(crowd), not any(played.can_go_on(*row) for row in rows))):
                    self.assertIs(is_formula(program.counters, formula), True)
                    self.assertIs(holds(formula, x), truth)
                    seen[(formula[0], truth)] = seen.get((formula[0], truth), 0) + 1
                if rows:
                    played.goes_on(*chance.choice(rows))
        self.assertTrue({("not", True), ("not", False), ("equal", True), ("equal", False),
                         ("and", True), ("and", False)} <= set(seen))

    def test_settled(self):
        # Two processes are never at place 1 together; without the lock they are.
        crowd = Crowd(LOCKED.kinds[:1], 1, ())
        program, start = program_of(crowd), start_of(crowd)
        target = lot_of(3, (("not", alone(crowd, ((0, 1),))),))
        self.assertIs(is_in(target, (0, (0, 2, 0))), True)
        self.assertIsInstance(settle(program, start, target, (1, 2), 4, 3), Wall)
        rows = ((0, (), 1), (1, (), 0))
        crowd = Crowd(((2, (2, 0), rows),), 1, ())
        self.assertIsInstance(settle(program_of(crowd), start_of(crowd), target, (1, 2), 4, 3), Run)


if __name__ == "__main__":
    import unittest

    unittest.main()
