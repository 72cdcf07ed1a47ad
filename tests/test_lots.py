"""[13] to [19]: words, lots, what is made of them, and their least form."""

import itertools
import random

from numberwall.errors import BadConfiguration, BadLot, BadNumber, BadReads, Unlike
from numberwall.lots import Lot, all_in, all_of, is_equal, is_in, join, just_these, least
from numberwall.lots import least_in, left_out, meet, none_of, read, row_of, some, spread, word_of
from raising import Raising
from slow_lots import configurations, drawn_lot, order_of, renamed, rows, slow_in, slow_least

NO_NATURALS = (True, False, None, "1", 1.0, -1, [1], (1,))
# One counter, one location: the even numbers; the states 2 and 3 are alike.
EVEN = Lot(1, ((2, 1), (1, 1), (3, 2), (2, 3)), (True, False, True, True), (0,))
# Two counters that are equal.
EQUAL = Lot(2, ((0, 1, 1, 0), (1, 1, 1, 1)), (True, False), (0,))
# At location 0 what is equal, at location 1 nothing.
EQUAL_AT_0 = Lot(2, EQUAL.moves, EQUAL.good, (0, 1))


def drawn(many, counters=(0, 1, 2, 3), locations=(1, 2, 3), states=(1, 2, 3, 4, 5)):
    """Triples of a chance, and two lots of like sizes."""
    chance = random.Random(5)
    for _ in range(many):
        sizes = chance.choice(counters), chance.choice(locations)
        yield (chance, drawn_lot(chance, *sizes, chance.choice(states)),
               drawn_lot(chance, *sizes, chance.choice(states)))


class Words(Raising):
    def test_words(self):
        self.assertEqual(word_of((5, 0, 3)), (5, 4, 1))
        self.assertEqual(word_of([4]), (0, 0, 1))
        self.assertEqual(word_of((1, 2)), (1, 2))
        self.assertEqual(word_of((2 ** 70, 1)), (2,) + (0,) * 69 + (1,))
        for x in ((), [], (0,), (0, 0, 0)):
            self.assertEqual(word_of(x), ())

    def test_rows(self):
        self.assertEqual(row_of(3, (5, 4, 1)), (5, 0, 3))
        self.assertEqual(row_of(1, [0, 0, 1, 0, 0]), (4,))
        self.assertEqual(row_of(0, ()), ())
        self.assertEqual(row_of(0, (0, 0)), ())
        self.assertEqual(row_of(2, []), (0, 0))
        self.assertEqual(row_of(2, (0, 0, 0)), (0, 0))

    def test_there_and_back(self):
        chance = random.Random(1)
        for counters in range(5):
            for top in (1, 2, 9, 1000, 2 ** 80):
                x = tuple(chance.randrange(top) for _ in range(counters))
                word = word_of(x)
                self.assertEqual(word, order_of((0, x))[2])
                self.assertNotEqual(word[-1:], (0,))
                for zeros in range(4):
                    self.assertEqual(row_of(counters, word + (0,) * zeros), x)

    def test_wrong_rows(self):
        for x in (None, 5, "12", {}, {1}, range(2), (1, -1), (True,), [0, False], (1.0,), ("1",),
                  ((1,),), (None, 0)):
            self.wrong(BadNumber, {"what": "row", "number": x}, word_of, x)

    def test_wrong_counters_and_words(self):
        for counters in NO_NATURALS:
            fields = {"what": "counters", "number": counters}
            self.wrong(BadNumber, fields, row_of, counters, None)
        for word in (None, 1, "01", {}, (4,), (0, -1), [True], (1, False), (1.0,), ("1",), ((1,),)):
            self.wrong(BadNumber, {"what": "word", "number": word}, row_of, 2, word)
        self.wrong(BadNumber, {"what": "word", "number": (1,)}, row_of, 0, (1,))


class Lots(Raising):
    def test_keeps_tuples(self):
        moves, good, begins = [[0, 1], [1, 0]], [True, False], [1, 0, 1]
        lot = Lot(1, moves, good, begins)
        kept = (1, ((0, 1), (1, 0)), (True, False), (1, 0, 1))
        self.assertEqual((lot.counters, lot.moves, lot.good, lot.begins), kept)
        moves[0][0] = moves[1][1] = 7
        good.append(True)
        begins[0] = 9
        self.assertEqual((lot.counters, lot.moves, lot.good, lot.begins), kept)
        self.assertIs(lot.good.__class__, tuple)
        self.assertIs(lot.moves[0].__class__, tuple)

    def test_mixed_rows_and_no_counters(self):
        self.assertEqual(Lot(0, ([0], (1,)), [False, True], (1, 0)).moves, ((0,), (1,)))
        self.assertEqual(Lot(0, [(0,)], (True,), [0]).begins, (0,))

    def test_equal_if_all_four_are(self):
        lot = Lot(1, ((0, 1), (1, 1)), (True, False), (0,))
        self.assertTrue(lot == Lot(1, [[0, 1], [1, 1]], [True, False], [0]))
        self.assertFalse(lot != Lot(1, [[0, 1], [1, 1]], [True, False], [0]))
        for other in (Lot(1, ((0, 0), (1, 1)), (True, False), (0,)),
                      Lot(1, ((0, 1), (1, 1)), (False, True), (0,)),
                      Lot(1, ((0, 1), (1, 1)), (True, False), (1,)),
                      Lot(1, ((0, 1), (1, 1)), (True, False), (0, 0)),
                      None, (1, lot.moves, lot.good, lot.begins)):
            self.assertFalse(lot == other)
            self.assertTrue(lot != other)
        # As many columns cannot be of other counters: these differ in counters and in moves.
        self.assertFalse(all_of(0, 1) == all_of(1, 1))

    def test_wrong_counters(self):
        for counters in NO_NATURALS:
            fields = {"what": "counters", "number": counters}
            self.wrong(BadNumber, fields, Lot, counters, None, None, None)

    def test_wrong_moves(self):
        for moves in (None, 5, "01", {}, (), [], ((0,),), ((0, 0), (0,)), ((0, 0, 0),),
                      ((0, 1),), ((0, -1),), ((0, True), (1, 1)), ((0, False),), ((0, None),),
                      ("00",), (0, 0), ((0, 0), None), ((0, 0), (0, 2)), ((0, 0.0),),
                      {0: (0, 0)}, range(1)):
            self.wrong(BadLot, {"lot": moves}, Lot, 1, moves, None, None)
        self.wrong(BadLot, {"lot": ((0, 0),)}, Lot, 0, ((0, 0),), (True,), (0,))
        self.wrong(BadLot, {"lot": ((0,),)}, Lot, 10 ** 12, ((0,),), (True,), (0,))

    def test_wrong_good(self):
        moves = ((0, 1), (1, 0))
        for good in (None, 5, "TF", {}, (), (True,), (True, False, True), (1, 0), (True, 0),
                     (None, True), {True, False}, ("True", "False"), (True, (False,))):
            self.wrong(BadLot, {"lot": good}, Lot, 1, moves, good, None)

    def test_good_that_looks_at_columns_0_behind(self):
        for moves in (((1, 0), (1, 0)), ((0, 0), (0, 1)), ((1, 0), (0, 1))):
            for good in ((True, False), [False, True]):
                self.wrong(BadLot, {"lot": good}, Lot, 1, moves, good, (0,))
                Lot(1, moves, (good[0], good[0]), (0,))
        # By other columns a state may go to any other one.
        Lot(1, ((0, 1), (1, 0)), (True, False), (0,))
        self.wrong(BadLot, {"lot": (True, True, False)}, Lot, 0, ((1,), (2,), (2,)),
                   (True, True, False), (0,))

    def test_wrong_begins(self):
        moves, good = ((0, 1), (1, 0)), (True, False)
        for begins in (None, 0, "0", {}, (), [], (2,), (-1,), (0, True), (False,), (None,),
                       ((0,),), (0.0,), {0}, range(1)):
            self.wrong(BadLot, {"lot": begins}, Lot, 1, moves, good, begins)

    def test_the_first_wrong_one_is_told(self):
        self.wrong(BadNumber, {"what": "counters", "number": -1}, Lot, -1, (), (), ())
        self.wrong(BadLot, {"lot": ()}, Lot, 1, (), [], [])
        self.wrong(BadLot, {"lot": []}, Lot, 1, ((0, 0),), [], ())
        self.wrong(BadLot, {"lot": []}, Lot, 1, ((0, 0),), (True,), [])

    def test_read(self):
        self.assertEqual(read(EVEN, 0, ()), 0)
        self.assertEqual(read(EVEN, 1, []), 1)
        self.assertEqual(read(EVEN, 0, (0,)), 2)
        self.assertEqual(read(EVEN, 2, [0, 0, 0]), 3)
        self.assertEqual(read(EVEN, 0, (0, 1, 0, 1)), 3)
        for _, lot, _ in drawn(30):
            for q in range(len(lot.moves)):
                for word in itertools.product(range(2 ** lot.counters), repeat=2):
                    self.assertEqual(read(lot, q, word), lot.moves[lot.moves[q][word[0]]][word[1]])

    def test_read_errors(self):
        for q in (*NO_NATURALS, 4):
            self.wrong(BadNumber, {"what": "state", "number": q}, read, EVEN, q, None)
        for word in (None, "0", 0, (2,), (0, -1), (True,), {0: 1}, (0.0,)):
            self.wrong(BadNumber, {"what": "word", "number": word}, read, EVEN, 0, word)

    def test_is_in(self):
        for x, truth in (((0, 0), True), ((6, 6), True), ((6, 7), False), ((2, 6), False),
                         ((2 ** 300 + 5, 2 ** 300 + 5), True), ((2 ** 300 + 5, 5), False)):
            self.assertIs(is_in(EQUAL, (0, x)), truth)
            self.assertIs(is_in(EQUAL_AT_0, (0, x)), truth)
            self.assertIs(is_in(EQUAL_AT_0, (1, x)), False)
        self.assertIs(is_in(Lot(0, ((0,), (1,)), (True, False), (1, 0)), (1, ())), True)
        self.assertIs(is_in(Lot(0, ((0,), (1,)), (True, False), (1, 0)), (0, ())), False)

    def test_is_in_reads_each_row(self):
        for _, lot, _ in drawn(40, counters=(0, 1, 2)):
            for one in configurations(lot.counters, len(lot.begins), 3):
                self.assertIs(is_in(lot, one), slow_in(lot, one))

    def test_what_is_no_configuration(self):
        for value in ([0, (0, 0)], (0, [0, 0]), (2, (0, 0)), (-1, (0, 0)), (False, (0, 0)),
                      (0, (0,)), (0, (0, 0, 0)), (0, (0, -1)), (0, (0, True)), (0,), (), None, 0,
                      (0, (0, 0), 0), (0, None), "ab", (0, (0, 0.0))):
            self.wrong(BadConfiguration, {"configuration": value}, is_in, EQUAL_AT_0, value)
        self.wrong(BadConfiguration, {"configuration": (1, (0, 0))}, is_in, EQUAL, (1, (0, 0)))

    def test_all_and_none(self):
        self.assertEqual(all_of(2, 3), Lot(2, ((0, 0, 0, 0),), (True,), (0, 0, 0)))
        self.assertEqual(none_of(2, 1), Lot(2, ((0, 0, 0, 0),), (False,), (0,)))
        self.assertEqual(all_of(0, 1), Lot(0, ((0,),), (True,), (0,)))
        for call in (all_of, none_of):
            for number in NO_NATURALS:
                self.wrong(BadNumber, {"what": "counters", "number": number}, call, number, 0)
                self.wrong(BadNumber, {"what": "locations", "number": number}, call, 1, number)
            self.wrong(BadNumber, {"what": "locations", "number": 0}, call, 0, 0)


class MeetsAndJoins(Raising):
    def test_just_those_in_and_in_least_form(self):
        for _, one, other in drawn(60, counters=(0, 1, 2)):
            both, either, out = meet(one, other), join(one, other), left_out(one)
            for each in (both, either, out):
                self.assertEqual(each, slow_least(each))
                self.assertEqual((each.counters, len(each.begins)), (one.counters, len(one.begins)))
            for place in configurations(one.counters, len(one.begins), 3):
                truths = slow_in(one, place), slow_in(other, place)
                self.assertIs(slow_in(both, place), all(truths))
                self.assertIs(slow_in(either, place), any(truths))
                self.assertIs(slow_in(out, place), not truths[0])

    def test_three_counters(self):
        for _, one, other in drawn(10, counters=(3,), states=(4, 6)):
            both = meet(one, other)
            self.assertEqual(left_out(both), join(left_out(one), left_out(other)))
            self.assertEqual(both, slow_least(both))

    def test_of_a_lot_with_itself(self):
        for _, lot, _ in drawn(40):
            self.assertEqual(meet(lot, lot), slow_least(lot))
            self.assertEqual(join(lot, lot), slow_least(lot))
            sizes = lot.counters, len(lot.begins)
            self.assertEqual(meet(lot, left_out(lot)), none_of(*sizes))
            self.assertEqual(join(lot, left_out(lot)), all_of(*sizes))
            self.assertEqual(left_out(left_out(lot)), slow_least(lot))

    def test_unlike_ones(self):
        for call in (meet, join, is_equal):
            self.wrong(Unlike, {"what": "counters"}, call, all_of(1, 1), all_of(2, 1))
            self.wrong(Unlike, {"what": "counters"}, call, all_of(2, 1), all_of(1, 2))
            self.wrong(Unlike, {"what": "locations"}, call, all_of(2, 1), all_of(2, 2))

    def test_forty_states(self):
        # By each column 1 a state goes on, so that all rests by 40, and by 37, are parted.
        lots = [Lot(1, [(q, (q + 1) % n) for q in range(n)], [q == 0 for q in range(n)], (0,))
                for n in (40, 37)]
        self.assertEqual(len(meet(*lots).moves), 40 * 37)


class Spreads(Raising):
    def test_state_by_state(self):
        lot = Lot(1, ((0, 1), (1, 0)), (True, False), (1, 0))
        self.assertEqual(spread(lot, 2, (0,)), Lot(2, ((0, 1, 0, 1), (1, 0, 1, 0)), lot.good, (1, 0)))
        self.assertEqual(spread(lot, 2, [1]), Lot(2, ((0, 0, 1, 1), (1, 1, 0, 0)), lot.good, (1, 0)))
        self.assertEqual(spread(lot, 1, (0,)), lot)
        self.assertEqual(spread(EQUAL, 3, (0, 2)).moves, ((0, 1, 0, 1, 1, 0, 1, 0), (1,) * 8))
        # Alike states stay: this is no least form.
        self.assertEqual(spread(EVEN, 1, [0]), EVEN)

    def test_no_counters(self):
        lot = Lot(0, ((1,), (0,)), (True, True), (1, 0))
        self.assertEqual(spread(lot, 2, ()), Lot(2, ((1,) * 4, (0,) * 4), (True, True), (1, 0)))
        self.assertEqual(spread(lot, 0, []), lot)

    def test_looks_at_the_read_counters_alone(self):
        for chance, lot, _ in drawn(40, counters=(0, 1, 2)):
            reads = sorted(chance.sample(range(3), lot.counters))
            wide = spread(lot, 3, reads)
            self.assertEqual(len(wide.moves), len(lot.moves))
            for location, x in configurations(3, len(lot.begins), 2):
                self.assertIs(slow_in(wide, (location, x)),
                              slow_in(lot, (location, [x[i] for i in reads])))

    def test_errors_in_order(self):
        for counters in NO_NATURALS:
            fields = {"what": "counters", "number": counters}
            self.wrong(BadNumber, fields, spread, EQUAL, counters, None)
        for reads in (None, (), (0,), (0, 0), (1, 0), (0, 3), (0, 1, 2), (False, 1), "01", {},
                      (0, 1.0), (-1, 0), (0, None), {0, 1}):
            self.wrong(BadReads, {"reads": reads}, spread, EQUAL, 3, reads)
        self.wrong(BadReads, {"reads": (0, 1)}, spread, EQUAL, 1, (0, 1))


class Leasts(Raising):
    def test_even_numbers(self):
        self.assertEqual(least(EVEN), Lot(1, ((1, 2), (1, 1), (2, 2)), (True, True, False), (0,)))

    def test_numbered_as_they_come_up(self):
        # 3 begins, then 2; behind 3 stand 3 and 1, behind 2 stand 1 and 0; no two are alike.
        lot = Lot(1, ((2, 2), (0, 3), (1, 0), (3, 1)), (False, False, False, True), (3, 2, 3))
        self.assertEqual(least(lot), Lot(1, ((0, 2), (2, 3), (3, 0), (1, 1)),
                                         (True, False, False, False), (0, 1, 0)))

    def test_states_never_come_to(self):
        lot = Lot(1, ((0, 0), (1, 0), (2, 0)), (False, True, True), (0,))
        self.assertEqual(least(lot), none_of(1, 1))

    def test_named_anew_doubled_and_never_come_to(self):
        for chance, lot, _ in drawn(80):
            form = least(lot)
            self.assertEqual(form, slow_least(lot))
            self.assertEqual(least(form), form)
            self.assertEqual(least(renamed(chance, lot)), form)
            self.assertTrue(is_equal(lot, renamed(chance, lot)))

    def test_parted_by_long_words_alone(self):
        # 30 in a row: how far the good one is away tells them apart.
        row = [(q, min(q + 1, 29)) for q in range(30)]
        lot = Lot(1, row, [q == 29 for q in range(30)], (0,))
        self.assertEqual(least(lot), lot)

    def test_is_equal(self):
        self.assertIs(is_equal(EVEN, least(EVEN)), True)
        self.assertIs(is_equal(EVEN, all_of(1, 1)), False)
        self.assertIs(is_equal(EQUAL_AT_0, Lot(2, EQUAL.moves, EQUAL.good, (1, 0))), False)
        for _, one, other in drawn(80, counters=(0, 1), states=(1, 2, 3)):
            alike = all(slow_in(one, place) == slow_in(other, place)
                        for place in configurations(one.counters, len(one.begins), 5))
            self.assertIs(is_equal(one, other), alike)
            self.assertIs(least(one) == least(other), alike)


class Orders(Raising):
    def test_least_in_by_length_then_location_then_word(self):
        def least_of(*told):
            return least_in(just_these(2, 2, told))

        self.assertEqual(least_of((0, (2, 0)), (1, (1, 1))), (1, (1, 1)))
        self.assertEqual(least_of((1, (1, 0)), (0, (1, 1))), (0, (1, 1)))
        self.assertEqual(least_of((1, (0, 0)), (0, (1, 0))), (1, (0, 0)))
        # The first columns are compared first: (3, 2) has the word 1, 3, and (2, 3) has 2, 3.
        self.assertEqual(least_of((0, (2, 3)), (0, (3, 2))), (0, (3, 2)))
        self.assertEqual(least_of((0, (2, 2)), (0, (3, 0))), (0, (2, 2)))
        self.assertEqual(least_of((0, (0, 5)), (0, (1, 4))), (0, (1, 4)))

    def test_least_in_of_drawn_lots(self):
        for _, lot, _ in drawn(150, counters=(0, 1, 2), states=(1, 2, 3, 4)):
            found = [one for one in configurations(lot.counters, len(lot.begins), 3)
                     if slow_in(lot, one)]
            self.assertEqual(least_in(lot), min(found, key=order_of, default=None))

    def test_least_in_none(self):
        self.assertIsNone(least_in(none_of(2, 2)))
        self.assertIsNone(least_in(Lot(1, ((0, 0), (1, 1)), (False, True), (0,))))
        self.assertEqual(least_in(all_of(0, 1)), (0, ()))
        self.assertEqual(least_in(all_of(3, 2)), (0, (0, 0, 0)))
        self.assertEqual(least_in(just_these(1, 1, ((0, (2 ** 90,)),))), (0, (2 ** 90,)))

    def test_all_in(self):
        self.assertEqual(all_in(EQUAL_AT_0, 0), ((0, (0, 0)),))
        self.assertEqual(all_in(EQUAL_AT_0, 1), ((0, (0, 0)), (0, (1, 1))))
        self.assertEqual(all_in(EVEN, 3), ((0, (0,)), (0, (2,)), (0, (4,)), (0, (6,))))
        self.assertEqual(all_in(all_of(0, 2), 4), ((0, ()), (1, ())))
        self.assertEqual(all_in(none_of(3, 2), 4), ())
        self.assertEqual(len(all_in(all_of(3, 4), 4)), 4 * 16 ** 3)

    def test_all_in_of_drawn_lots(self):
        for _, lot, _ in drawn(60):
            for bits in range(3):
                told = all_in(lot, bits)
                self.assertEqual(told, tuple(one for one in configurations(
                    lot.counters, len(lot.begins), bits) if slow_in(lot, one)))

    def test_wrong_bits(self):
        for bits in NO_NATURALS:
            self.wrong(BadNumber, {"what": "bits", "number": bits}, all_in, EVEN, bits)

    def test_just_these(self):
        self.assertEqual(just_these(2, 3, ()), none_of(2, 3))
        self.assertEqual(just_these(2, 3, []), none_of(2, 3))
        self.assertEqual(just_these(0, 1, ((0, ()),)), all_of(0, 1))
        self.assertEqual(just_these(1, 1, [(0, (1,))]),
                         Lot(1, ((1, 2), (1, 1), (2, 1)), (False, False, True), (0,)))
        self.assertEqual(just_these(0, 2, ((1, ()), (1, ()))),
                         Lot(0, ((0,), (1,)), (False, True), (0, 1)))

    def test_just_these_of_drawn_ones(self):
        chance = random.Random(3)
        for _ in range(40):
            counters, locations = chance.randrange(4), chance.randrange(1, 4)
            top = chance.choice((2, 4, 8))
            told = [(chance.randrange(locations), tuple(chance.randrange(top) for _ in range(counters)))
                    for _ in range(chance.randrange(7))]
            lot = just_these(counters, locations, told + told[:2])
            self.assertEqual(lot, slow_least(lot))
            self.assertEqual(all_in(lot, 4), tuple(sorted(set(told))))

    def test_just_these_of_great_numbers(self):
        chance = random.Random(4)
        told = [(chance.randrange(4), tuple(chance.randrange(1000) for _ in range(3)))
                for _ in range(20)]
        lot = just_these(3, 4, told)
        for one in told:
            self.assertTrue(is_in(lot, one))
            self.assertEqual(is_in(lot, (one[0], (one[1][0] + 1024, *one[1][1:]))), False)
        for one in ((0, (1, 1, 1)), (3, (999, 0, 0))):
            self.assertIs(is_in(lot, one), one in told)
        for one in sorted(set(told), key=order_of):
            self.assertEqual(least_in(lot), one)
            lot = meet(lot, left_out(just_these(3, 4, (one,))))
        self.assertEqual(lot, none_of(3, 4))

    def test_just_these_errors_in_order(self):
        for number in NO_NATURALS:
            self.wrong(BadNumber, {"what": "counters", "number": number}, just_these, number, 0, None)
            self.wrong(BadNumber, {"what": "locations", "number": number}, just_these, 1, number, 0)
        self.wrong(BadNumber, {"what": "locations", "number": 0}, just_these, 1, 0, None)
        for told in (None, 0, "", {}, set()):
            self.wrong(BadConfiguration, {"configuration": told}, just_these, 1, 2, told)
        right = (1, (5,))
        for one in ([0, (1,)], (0, [1]), (2, (1,)), (True, (1,)), (0, (True,)), (0, (-1,)), (0, ()),
                    (0, (1, 1)), None, 0, (), (0, 1), (0, (1,), 0)):
            self.wrong(BadConfiguration, {"configuration": one}, just_these, 1, 2, (one,))
            self.wrong(BadConfiguration, {"configuration": one}, just_these, 1, 2,
                       [right, one, right, (9, 9)])


class Somes(Raising):
    def test_each_counter(self):
        twice = Lot(2, ((0, 2, 1, 2), (2, 0, 2, 1), (2,) * 4), (True, False, False), (0,))
        for x, y in itertools.product(range(8), repeat=2):
            self.assertIs(slow_in(twice, (0, (x, y))), x == 2 * y)
        self.assertEqual(some(twice, 0), all_of(1, 1))
        self.assertEqual(some(twice, 1), least(EVEN))

    def test_a_number_longer_than_all_others(self):
        lot = just_these(2, 2, ((0, (1, 700)), (1, (0, 512)), (1, (6, 1))))
        self.assertEqual(some(lot, 1), just_these(1, 2, ((0, (1,)), (1, (0,)), (1, (6,)))))
        self.assertEqual(some(lot, 0), just_these(1, 2, ((0, (700,)), (1, (512,)), (1, (1,)))))
        self.assertEqual(some(some(lot, 0), 0), all_of(0, 2))
        alone = some(just_these(1, 2, ((1, (999,)),)), 0)
        self.assertEqual(alone, Lot(0, ((0,), (1,)), (False, True), (0, 1)))

    def test_drawn_lots(self):
        for _, lot, _ in drawn(60, counters=(1, 2), states=(1, 2, 3, 4)):
            for counter in range(lot.counters):
                told = some(lot, counter)
                self.assertEqual(told, slow_least(told))
                self.assertEqual(told.counters, lot.counters - 1)
                for location, x in configurations(told.counters, len(lot.begins), 2):
                    # Two columns of the others, and one more for each state but one.
                    truth = any(slow_in(lot, (location, (*x[:counter], y, *x[counter:])))
                                for y in range(2 ** (1 + len(lot.moves))))
                    self.assertIs(slow_in(told, (location, x)), truth)

    def test_three_counters_and_ten_states(self):
        for _, lot, _ in drawn(4, counters=(3,), locations=(2,), states=(10,)):
            first, second = some(some(lot, 2), 1), some(some(lot, 1), 1)
            self.assertEqual(first, second)
            self.assertEqual(some(some(lot, 0), 1), some(some(lot, 2), 0))

    def test_wrong_counters(self):
        for counter in (*NO_NATURALS, 2):
            self.wrong(BadNumber, {"what": "counter", "number": counter}, some, EQUAL, counter)
        self.wrong(BadNumber, {"what": "counter", "number": 0}, some, all_of(0, 1), 0)


class Passed(Raising):
    def test_nothing_passed_is_changed(self):
        for _, one, other in drawn(10, counters=(2,)):
            before = [(each.counters, each.moves, each.good, each.begins) for each in (one, other)]
            meet(one, other), join(one, other), left_out(one), least(one), some(one, 0)
            spread(one, 3, [0, 2]), least_in(one), all_in(one, 2), is_equal(one, other)
            after = [(each.counters, each.moves, each.good, each.begins) for each in (one, other)]
            self.assertEqual(before, after)

    def test_rows_of_all_are_tuples(self):
        for x in rows(2, 1):
            self.assertIs(word_of(list(x)).__class__, tuple)
        self.assertIs(all_in(EVEN, 2).__class__, tuple)
        self.assertIs(all_in(EVEN, 2)[0][1].__class__, tuple)


if __name__ == "__main__":
    import unittest

    unittest.main()
