"""[54] to [59]: workshops."""

import random

from numberwall.errors import BadConfiguration, BadLine, BadName, BadNumber, BadText, NoName, NotKept
from numberwall.errors import NothingToRedo, NothingToUndo, TakenName, Unlike
from numberwall.formulas import lot_of
from numberwall.settling import Neither, Run, Wall, is_settled, settle
from numberwall.texts import spoken_of, text_of
from numberwall.workshops import Workshop
from raising import Raising
from slow_workshops import Model, Stop, played, seen

NO_NATURALS = (True, False, None, "1", 1.0, -1, [1], (1,))
NO_STRINGS = (None, 5, b"adder", ["adder"], ("adder",), {}, 1.5)
ADDER = """program adder
  counters x
  locations here
  step more : here to here gives 2 x
  start zero : here 0
  start one : here 1
  goal odd : here x = 1 mod 2
  goal four : here x = 4
end
"""
# The same with one thing changed each: more adds 3, the start has another place, a goal less.
THREES = ADDER.replace("gives 2 x", "gives 3 x")
LESS = ADDER.replace("  goal odd : here x = 1 mod 2\n", "")
TURNS = """program turns
  counters a b
  locations left right
  step go : left to right gives a
  step back : right to left gives b
  start begin : left 0 0
  goal uneven : left b < a
  goal two : left a = 2
  goal two : right a = 2 and b = 1
end
"""
NEVER = "adder zero never odd"
TO = "adder zero to four"


def refused(test, shop, kind, fields, call, *values):
    """The call raises this error and changes nothing."""
    before = (seen(shop), shop.get("adder") if "adder" in shop.names() else None)
    test.wrong(kind, fields, call, *values)
    test.assertEqual((seen(shop), shop.get("adder") if "adder" in shop.names() else None), before)


class Shown(Raising):
    def test_without_a_text(self):
        shop = Workshop()
        self.assertEqual((shop.text(), shop.names(), shop.promises()), ("", (), ()))
        self.wrong(NoName, {"name": "adder"}, shop.get, "adder")
        self.wrong(NothingToUndo, {}, shop.undo)
        self.wrong(NothingToRedo, {}, shop.redo)
        self.assertEqual(Workshop("\n  \n").names(), ())

    def test_text_names_and_programs(self):
        shop = Workshop(TURNS + ADDER.replace("\n", "\n\n").replace(" :", ":"))
        self.assertEqual(shop.text(), TURNS + ADDER)
        self.assertEqual(shop.names(), ("turns", "adder"))
        self.assertEqual(shop.get("adder"), spoken_of(ADDER)[0])
        for name in ("addr", "", "adder ", None, 5, [], {}, ("adder",), b"adder"):
            self.wrong(NoName, {"name": name}, shop.get, name)
        self.wrong(NothingToUndo, {}, shop.undo)

    def test_wrong_ones(self):
        for text in NO_STRINGS:
            self.wrong(BadLine, {"line": 0, "column": 0}, Workshop, text, -1, -1)
        self.wrong(BadLine, {"line": 2, "column": 3}, Workshop, "program p\n  locations here\n", -1)
        for number in NO_NATURALS:
            self.wrong(BadNumber, {"what": "steps", "number": number}, Workshop, ADDER, number, -1)
            self.wrong(BadNumber, {"what": "states", "number": number}, Workshop, ADDER, 0, number)
        shop = Workshop(text=ADDER, steps=0, states=0)
        self.assertEqual(shop.kept("adder zero never odd")[0], False)

    def test_kept(self):
        shop = Workshop(ADDER + TURNS)
        adder, turns = shop.get("adder"), shop.get("turns")
        odd = lot_of(1, adder.goals[0][1])
        kept, witness = shop.kept(" adder  zero never odd ")
        self.assertIs(kept, True)
        self.assertIsInstance(witness, Wall)
        self.assertIs(is_settled(adder.program, (0, (0,)), odd, (0,), 6, 3, witness), True)
        kept, witness = shop.kept("adder one never odd")
        self.assertEqual((kept, witness), (False, Run((), ())))
        kept, witness = shop.kept("adder zero to odd")
        self.assertIs(kept, False)
        self.assertIsInstance(witness, Neither)
        self.assertEqual(witness.layers, tuple(((0, (2 * k,)),) for k in range(7)))
        self.assertEqual(witness.tree, ("begins", 0, ()))
        kept, witness = shop.kept(TO)
        self.assertIs(kept, True)
        self.assertEqual(witness.steps, (0, 0))
        # The counters of by are read ascending, whatever their order is; all, if there is no by.
        uneven = lot_of(2, (turns.goals[0][1][0], ("less", (0, ()), (0, ()))))
        for by, reads in (("", (0, 1)), (" by a b", (0, 1)), (" by b a", (0, 1)), (" by b", (1,)),
                          (" by a", (0,))):
            kept, witness = shop.kept("turns begin never uneven" + by)
            self.assertEqual(witness, settle(turns.program, (0, (0, 0)), uneven, reads, 6, 3))
            self.assertIs(kept, isinstance(witness, Wall))
            self.assertIs(kept, len(reads) == 2)
        self.assertEqual(shop.promises(), ())
        self.wrong(NothingToUndo, {}, shop.undo)

    def test_how_far_settle_goes(self):
        for steps in range(4):
            self.assertIs(Workshop(ADDER, steps).kept(TO)[0], steps >= 2)
        for states in range(5):
            self.assertIs(Workshop(ADDER, 2, states).kept(NEVER)[0], states >= 3)

    def test_errors_of_promises_in_order(self):
        shop = Workshop(ADDER + TURNS)
        for call in (shop.kept, shop.keep):
            for text in NO_STRINGS:
                self.wrong(BadText, {"column": 0}, call, text)
            self.wrong(BadText, {"column": 9}, call, "turns to to g")
            self.wrong(BadText, {"column": 1}, call, "")
            for text, name in (("p s never g by z z", "p"), ("turns s never g by z z", "s"),
                               ("turns begin never g by z z", "g"), ("turns begin to four", "four"),
                               ("turns zero to two", "zero"), ("adder begin to four", "begin"),
                               ("turns begin never two by z z", "z"), ("turns begin never two by a x", "x"),
                               ("turns begin never two by a a z", "z"), ("odd zero to odd", "odd")):
                self.wrong(NoName, {"name": name}, call, text)
            for by, name in (("a a", "a"), ("b a b", "b"), ("a b b", "b"), ("b a a", "a")):
                self.wrong(Unlike, {"what": name}, call, "turns begin never two by " + by)
        self.assertEqual(shop.promises(), ())
        self.wrong(NothingToUndo, {}, shop.undo)


class Edits(Raising):
    def test_all_tell_none(self):
        shop = Workshop(ADDER)
        self.assertIsNone(shop.put(TURNS))
        self.assertIsNone(shop.set_start("adder", "two", (0, (2,))))
        self.assertIsNone(shop.keep(TO))
        self.assertIsNone(shop.release(TO))
        self.assertIsNone(shop.rename("adder", "twos"))
        self.assertIsNone(shop.drop("turns"))
        self.assertIsNone(shop.undo())
        self.assertIsNone(shop.redo())
        self.assertEqual(shop.text(), ADDER.replace("adder", "twos").replace(
            "  goal odd", "  start two : here 2\n  goal odd"))

    def test_put(self):
        shop = Workshop(ADDER + TURNS)
        shop.put(THREES)
        self.assertEqual(shop.text(), THREES + TURNS)
        other = ADDER.replace("adder", "other")
        shop.put(other + LESS + TURNS)
        self.assertEqual(shop.text(), LESS + TURNS + other)
        self.assertEqual(shop.names(), ("adder", "turns", "other"))
        shop.undo()
        self.assertEqual(shop.text(), THREES + TURNS)
        for text, line, column in ((5, 0, 0), ("program adder\n", 2, 1), (ADDER + "end", 10, 1),
                                   (ADDER + ADDER, 10, 9)):
            refused(self, shop, BadLine, {"line": line, "column": column}, shop.put, text)
        self.assertEqual(shop.text(), THREES + TURNS)

    def test_put_breaks_a_promise(self):
        shop = Workshop(ADDER)
        shop.keep("adder  zero never odd")
        shop.keep(TO)
        witness = Workshop(THREES).kept(NEVER)[1]
        self.assertIsInstance(witness, Run)
        refused(self, shop, NotKept, {"promise": NEVER, "witness": witness}, shop.put, THREES)
        # What a promise names must be there: first of all of the first promise.
        refused(self, shop, NoName, {"name": "odd"}, shop.put, LESS)
        refused(self, shop, NoName, {"name": "zero"}, shop.put,
                LESS.replace("start zero", "start nought"))
        shop.release(NEVER)
        shop.put(LESS)
        refused(self, shop, NotKept, {"promise": TO, "witness": Workshop(THREES).kept(TO)[1]},
                shop.put, THREES)
        self.assertEqual((shop.text(), shop.promises()), (LESS, (TO,)))

    def test_counters_of_promises_must_be_there(self):
        shop = Workshop(TURNS)
        shop.keep("turns begin never uneven by b a")
        for text, name in ((TURNS.replace("counters a b", "counters a c").replace(
                "gives b", "gives c").replace("b = 1", "c = 1").replace("b < a", "c < a"), "b"),):
            self.wrong(NoName, {"name": name}, shop.put, text)
        self.assertEqual(shop.text(), TURNS)

    def test_drop(self):
        shop = Workshop(ADDER + TURNS)
        shop.keep("turns begin to two")
        shop.keep(TO)
        shop.keep(NEVER)
        for name in ("add", "", None, 5, [], b"adder", ("adder",)):
            refused(self, shop, NoName, {"name": name}, shop.drop, name)
        shop.drop("adder")
        self.assertEqual((shop.text(), shop.promises()), (TURNS, ("turns begin to two",)))
        shop.undo()
        self.assertEqual(shop.promises(), ("turns begin to two", TO, NEVER))
        self.assertEqual(shop.names(), ("adder", "turns"))

    def test_rename(self):
        shop = Workshop(ADDER + TURNS)
        shop.keep(TO)
        shop.keep("turns begin to two")
        shop.keep(NEVER)
        for new in ("", "To", "to", "abcdefghijklm", "1a", None, 5, [], ("a",), "a b", "never"):
            refused(self, shop, BadName, {"name": new}, shop.rename, "nobody", new)
        for name in ("nobody", None, [], 5):
            refused(self, shop, NoName, {"name": name}, shop.rename, name, "turns")
        for new in ("turns", "adder"):
            refused(self, shop, TakenName, {"name": new}, shop.rename, "adder", new)
        shop.rename("adder", "zero")
        self.assertEqual(shop.text(), ADDER.replace("adder", "zero") + TURNS)
        self.assertEqual(shop.promises(), ("zero zero to four", "turns begin to two",
                                           "zero zero never odd"))
        shop.release(" zero zero  to four ")
        self.assertEqual(shop.promises(), ("turns begin to two", "zero zero never odd"))

    def test_set_start(self):
        shop = Workshop(ADDER)
        for name in ("nobody", None, [], 5):
            refused(self, shop, NoName, {"name": name}, shop.set_start, name, "", None)
        for start in ("", "To", "to", None, 5, [], "a-b", "abcdefghijklm"):
            refused(self, shop, BadName, {"name": start}, shop.set_start, "adder", start, None)
        for place in (None, [0, (1,)], (0, [1]), (1, (1,)), (0, (1, 1)), (0, ()), (0, (-1,)),
                      (0, (True,)), (0, (100,)), (0, (1000,)), (False, (1,)), "ab"):
            refused(self, shop, BadConfiguration, {"configuration": place}, shop.set_start, "adder",
                    "zero", place)
        shop.set_start("adder", "zero", (0, (99,)))
        self.assertEqual(shop.get("adder").starts, (("zero", (0, (99,))), ("one", (0, (1,)))))
        shop.set_start("adder", "two", (0, (2,)))
        self.assertEqual(shop.get("adder").starts, (("zero", (0, (99,))), ("one", (0, (1,))),
                                                    ("two", (0, (2,)))))
        self.assertEqual(spoken_of(shop.text()), (shop.get("adder"),))
        shop.undo()
        shop.undo()
        shop.keep(NEVER)
        refused(self, shop, NotKept, {"promise": NEVER, "witness": Run((), ())}, shop.set_start,
                "adder", "zero", (0, (7,)))
        shop.set_start("adder", "zero", (0, (8,)))
        shop.set_start("adder", "one", (0, (7,)))

    def test_keep_and_release(self):
        shop = Workshop(ADDER)
        shop.keep("  adder   zero to  four ")
        self.assertEqual(shop.promises(), (TO,))
        for text in ("adder one never odd", " adder one  never odd "):
            refused(self, shop, NotKept, {"promise": "adder one never odd", "witness": Run((), ())},
                    shop.keep, text)
        shop.keep(NEVER)
        shop.keep("adder zero never odd by x")
        self.assertEqual(shop.promises(), (TO, NEVER, NEVER + " by x"))
        for text in (*NO_STRINGS, "", "adder", "adder zero", "adder one to four", TO + "s",
                     TO.replace(" ", "\t"), TO + "\n", NEVER + " by", "adderzero to four"):
            refused(self, shop, NoName, {"name": text}, shop.release, text)
        shop.release("   adder zero   never odd")
        self.assertEqual(shop.promises(), (TO, NEVER + " by x"))
        shop.undo()
        self.assertEqual(shop.promises(), (TO, NEVER, NEVER + " by x"))

    def test_what_is_no_edit(self):
        shop = Workshop(ADDER + TURNS)
        shop.keep(TO)
        shop.keep(NEVER)
        shop.undo()
        for call, value in ((shop.put, ""), (shop.put, TURNS), (shop.put, TURNS + ADDER),
                            (shop.put, ADDER.replace("\n", "\n\n")), (shop.keep, TO),
                            (shop.keep, " " + TO), (shop.text, None), (shop.kept, NEVER)):
            call(*[value] if value is not None else [])
        shop.set_start("adder", "one", (0, (1,)))
        # So what was taken back can be made again, and only the first promise can be taken back.
        shop.redo()
        self.assertEqual(shop.promises(), (TO, NEVER))
        shop.undo()
        shop.undo()
        self.wrong(NothingToUndo, {}, shop.undo)
        self.assertEqual(shop.promises(), ())

    def test_two_workshops(self):
        one, other = Workshop(ADDER), Workshop(ADDER)
        one.keep(NEVER)
        one.rename("adder", "twos")
        self.assertEqual((other.text(), other.promises()), (ADDER, ()))
        other.put(THREES)
        self.assertEqual(one.text(), ADDER.replace("adder", "twos"))
        self.wrong(NothingToRedo, {}, other.redo)
        one.attempt(lambda shop: other.drop("adder"))
        self.assertEqual((other.names(), one.names()), ((), ("twos",)))
        other.undo()
        self.assertEqual(other.text(), THREES)


class Undone(Raising):
    def edits(self, shop):
        return ((shop.put, (TURNS,)), (shop.keep, (TO,)), (shop.keep, (NEVER,)),
                (shop.set_start, ("adder", "two", (0, (2,)))), (shop.put, (ADDER + TURNS,)),
                (shop.rename, ("turns", "again")), (shop.release, (TO,)), (shop.drop, ("again",)),
                (shop.rename, ("adder", "twos")), (shop.drop, ("twos",)))

    def test_each_edit_and_all_of_them(self):
        shop = Workshop(ADDER)
        shown = [seen(shop)]
        for call, values in self.edits(shop):
            call(*values)
            shown.append(seen(shop))
            self.assertNotEqual(shown[-1], shown[-2])
            shop.undo()
            self.assertEqual(seen(shop), shown[-2])
            shop.redo()
            self.assertEqual(seen(shop), shown[-1])
            self.wrong(NothingToRedo, {}, shop.redo)
        for _ in range(2):
            for one in shown[-2::-1]:
                shop.undo()
                self.assertEqual(seen(shop), one)
            self.wrong(NothingToUndo, {}, shop.undo)
            for one in shown[1:]:
                shop.redo()
                self.assertEqual(seen(shop), one)
            self.wrong(NothingToRedo, {}, shop.redo)

    def test_an_edit_takes_away_what_could_be_done_again(self):
        shop = Workshop(ADDER)
        shop.keep(TO)
        shop.keep(NEVER)
        shop.undo()
        shop.undo()
        shop.rename("adder", "twos")
        self.wrong(NothingToRedo, {}, shop.redo)
        shop.undo()
        # An edit that is refused takes nothing away.
        self.wrong(NotKept, {"promise": "adder one never odd", "witness": Run((), ())}, shop.keep,
                   "adder one never odd")
        shop.redo()
        self.assertEqual(shop.names(), ("twos",))

    def test_an_attempt_is_one_edit(self):
        shop = Workshop(ADDER)
        told = object()

        def action(given):
            self.assertIs(given, shop)
            given.keep(TO)
            given.put(TURNS)
            given.rename("adder", "twos")
            return told

        self.assertIs(shop.attempt(action), told)
        after = seen(shop)
        self.assertEqual((shop.names(), shop.promises()), (("twos", "turns"), ("twos zero to four",)))
        shop.undo()
        self.assertEqual(seen(shop), (ADDER, ("adder",), ()))
        self.wrong(NothingToUndo, {}, shop.undo)
        shop.redo()
        self.assertEqual(seen(shop), after)

    def test_an_attempt_that_is_no_edit(self):
        shop = Workshop(ADDER)
        shop.keep(TO)
        shop.undo()
        self.assertIsNone(shop.attempt(lambda given: None))
        self.assertEqual(shop.attempt(lambda given: [given.drop("adder"), given.put(ADDER)]),
                         [None, None])
        self.assertEqual(shop.attempt(lambda given: [given.drop("adder"), given.undo()]), [None, None])
        self.wrong(NothingToUndo, {}, shop.undo)
        shop.redo()
        self.assertEqual(shop.promises(), (TO,))

    def test_errors_within(self):
        shop = Workshop(ADDER)
        shop.keep(NEVER)
        shop.keep(TO)
        shop.undo()
        before = seen(shop)

        def failing(error):
            def action(given):
                given.put(TURNS)
                given.drop("adder")
                self.assertEqual(given.names(), ("turns",))
                raise error
            return action

        for error in (Stop("own"), NoName("x"), KeyError(5), KeyboardInterrupt(), SystemExit(3),
                      GeneratorExit(), NotKept("p", None)):
            for call in (shop.attempt, shop.trial):
                with self.assertRaises(type(error)) as caught:
                    call(failing(error))
                self.assertIs(caught.exception, error)
                self.assertEqual(seen(shop), before)
        for value in (None, 5, "action"):
            with self.assertRaises(TypeError):
                shop.attempt(value)
        shop.redo()
        self.assertEqual(shop.promises(), (NEVER, TO))
        shop.undo()
        shop.undo()
        self.wrong(NothingToUndo, {}, shop.undo)

    def test_a_promise_broken_within(self):
        shop = Workshop(ADDER)
        shop.keep(NEVER)

        def broken(given):
            given.put(THREES)
            # What is not kept is told, too, and nothing is looked at.
            self.assertIs(given.kept(NEVER)[0], False)
            given.keep(TO)
            given.keep("adder one never odd")
            return 7

        def mended(given):
            broken(given)
            given.release("adder one never odd")
            given.put(ADDER)
            return 8

        witness = Workshop(THREES).kept(NEVER)[1]
        for call in (shop.attempt, shop.trial):
            refused(self, shop, NotKept, {"promise": NEVER, "witness": witness}, call, broken)
        self.assertEqual(shop.trial(mended), 8)
        self.assertEqual(shop.promises(), (NEVER,))
        self.assertEqual(shop.attempt(mended), 8)
        self.assertEqual((shop.text(), shop.promises()), (ADDER, (NEVER, TO)))
        # A name that is gone at the end.
        for call in (shop.attempt, shop.trial):
            refused(self, shop, NoName, {"name": "odd"}, call, lambda given: given.put(LESS))
        # Keep tells of names at once, also of a promise that is made already.

        def nameless(given):
            given.put(LESS)
            self.wrong(NoName, {"name": "odd"}, given.keep, NEVER)
            self.wrong(NoName, {"name": "odd"}, given.keep, "adder one never odd")
            self.wrong(BadText, {"column": 1}, given.keep, "")
            given.release(NEVER)

        shop.attempt(nameless)
        self.assertEqual((shop.text(), shop.promises()), (LESS, (TO,)))

    def test_inner_ones_are_not_looked_at(self):
        shop = Workshop(ADDER)
        shop.keep(NEVER)

        def outer(given):
            given.attempt(lambda inner: inner.put(THREES))
            self.assertEqual(given.text(), THREES)
            given.trial(lambda inner: inner.put(LESS))
            self.assertEqual(given.text(), THREES)
            given.undo()
            self.assertEqual(given.text(), ADDER)
            given.redo()
            given.put(ADDER + TURNS)

        shop.attempt(outer)
        self.assertEqual(shop.text(), ADDER + TURNS)
        shop.undo()
        self.assertEqual(shop.text(), ADDER)
        # An attempt within a trial leaves nothing either.
        shop.trial(lambda given: given.attempt(lambda inner: inner.put(THREES) or inner.put(ADDER)
                                               or inner.put(TURNS)))
        self.assertEqual(shop.text(), ADDER)
        shop.redo()
        self.assertEqual(shop.text(), ADDER + TURNS)

    def test_undo_within_knows_its_own_edits_alone(self):
        shop = Workshop(ADDER)
        shop.keep(TO)
        shop.keep(NEVER)
        shop.undo()

        def action(given):
            self.wrong(NothingToUndo, {}, given.undo)
            self.wrong(NothingToRedo, {}, given.redo)
            given.rename("adder", "twos")
            given.put(TURNS)
            given.undo()
            self.assertEqual(given.names(), ("twos",))

            def inner(more):
                self.wrong(NothingToUndo, {}, more.undo)
                self.wrong(NothingToRedo, {}, more.redo)
                more.drop("twos")

            given.trial(inner)
            given.redo()
            given.undo()
            given.attempt(lambda more: None)
            given.redo()
            given.undo()

        for call in (shop.trial, shop.attempt):
            call(action)
        # What was taken back within is gone.
        self.wrong(NothingToRedo, {}, shop.redo)
        self.assertEqual(shop.names(), ("twos",))
        shop.undo()
        self.assertEqual((shop.names(), shop.promises()), (("adder",), (TO,)))

    def test_what_a_trial_leaves(self):
        shop = Workshop(ADDER)
        shop.keep(TO)
        shop.keep(NEVER)
        shop.undo()
        before = seen(shop)
        told = []
        self.assertIs(shop.trial(lambda given: given.drop("adder") or given.put(TURNS) or told), told)
        self.assertEqual(seen(shop), before)
        shop.redo()
        self.assertEqual(shop.promises(), (TO, NEVER))
        shop.undo()
        shop.undo()
        self.wrong(NothingToUndo, {}, shop.undo)


class Drawn(Raising):
    def drawn_row(self, chance, depth):
        name = chance.choice(("adder", "adder", "turns", "twos", "nobody"))
        promise = chance.choice((NEVER, TO, "adder one never odd", "twos zero never odd",
                                 "turns begin to two", "turns begin never uneven by b",
                                 "twos zero to four", "turns two to two", "adder  zero to odd", "p s"))
        text = chance.choice((ADDER, ADDER, TURNS, THREES, LESS, ADDER.replace("adder", "twos"),
                              ADDER + TURNS, "", "program"))
        if depth < 3 and chance.random() < 0.25:
            script = [self.drawn_row(chance, depth + 1) for _ in range(chance.randint(0, 5))]
            return (chance.choice(("attempt", "trial")), script, chance.random() < 0.3)
        return chance.choice((
            ("put", (text,)), ("put", (text,)), ("drop", (name,)),
            ("rename", (name, chance.choice(("adder", "turns", "twos", "To")))),
            ("set_start", (name, chance.choice(("zero", "one", "begin")),
                           (0, (chance.randint(0, 5),)))),
            ("keep", (promise,)), ("keep", (promise,)), ("keep", (promise,)),
            ("release", (promise,)), ("undo", ()), ("undo", ()), ("redo", ()), ("redo", ()),
            ("kept", (promise,)), ("get", (name,)), ("stop",)))

    def test_scripts(self):
        chance = random.Random(1)
        errors = {}
        for _ in range(120):
            shop, model = Workshop(ADDER, 3, 3), Model(ADDER, 3, 3)
            for _ in range(25):
                row = self.drawn_row(chance, 0)
                one, other = played(shop, [row]), played(model, [row])
                self.assertEqual(one, other, row)
                self.assertEqual(seen(shop), seen(model), row)
                errors[one[0][0]] = errors.get(one[0][0], 0) + 1
                # In a workshop every promise is kept at all times.
                for promise in shop.promises():
                    self.assertIs(shop.kept(promise)[0], True)
            self.assertEqual(shop.text(), "".join(text_of(shop.get(name)) for name in shop.names()))
        for name in ("told", "NotKept", "NoName", "TakenName", "BadName", "NothingToUndo",
                     "NothingToRedo", "BadLine", "BadText", "Stop"):
            self.assertGreater(errors.get(name, 0), 5, name)


if __name__ == "__main__":
    import unittest

    unittest.main()
