"""[28] to [31]: trees of cases, the leaf for a table, and the search for a wall or a tree."""

import random

from numberwall.errors import BadConfiguration, BadLot, BadNumber, BadReads
from numberwall.lots import Lot, all_of, just_these, none_of
from numberwall.programs import Program
from numberwall.trees import cases, depth_of, is_tree, leaf_for, leaves_of
from numberwall.walls import is_wall
from drawn_programs import BY_TURNS, ONE, ONE_AND_NONE, TURNS_WALL, TWO_MORE
from drawn_programs import drawn_place, drawn_program, drawn_target
from raising import Raising
from slow_trees import all_tables, changed, is_wrong_in, slow_is_tree

NO_NATURALS = (True, False, None, "1", 1.0, -1, [1], (1,))
# The document's trees: for TWO_MORE from 0 against ONE, and for BY_TURNS from (0, 0) against
# ONE_AND_NONE, both for 2 states; and for the second counter of BY_TURNS alone.
FOUR_LEAVES = (
    "begins", 0, (
      ("moves", 0, 1, (
        ("target", (0, (1,))),
        ("target", (0, (1,))),
        ("moves", 0, 0, (
          ("step", 0, (0, (0,))),)))),
      ("start",)))
TEN_LEAVES = (
    "begins", 0, (
      ("moves", 0, 1, (
        ("target", (0, (1, 0))),
        ("target", (0, (1, 0))),
        ("moves", 0, 0, (
          ("begins", 1, (
            ("step", 0, (0, (0, 0))),
            ("moves", 1, 1, (
              ("moves", 0, 3, (
                ("moves", 1, 2, (
                  ("step", 0, (0, (1, 1))),
                  ("moves", 1, 0, (
                    ("moves", 0, 2, (
                      ("step", 1, (1, (4, 0))),
                      ("moves", 1, 3, (
                        ("step", 0, (0, (4, 1))),
                        ("step", 0, (0, (5, 0))))))),)))),
                ("step", 1, (1, (1, 0))))),
              ("step", 0, (0, (0, 0))))))),)))),
      ("start",)))
TWO_LEAVES = ("begins", 0, (("target", (0, (1, 0))), ("start",)))
FIRST = (TWO_MORE, (0, (0,)), ONE, (0,), 2)
SECOND = (BY_TURNS, (0, (0, 0)), ONE_AND_NONE, (0, 1), 2)
# How many states, and how many read counters, there may be.
SIZES = ((8, 0), (1, 0), (3, 1), (4, 1), (1, 1), (1, 2), (2, 2), (1, 3))


def drawn_cases(seed, many, sizes=SIZES):
    """Rows of what cases takes, by chance."""
    chance = random.Random(seed)
    for _ in range(many):
        states, read = chance.choice(sizes)
        program = drawn_program(chance, counters=chance.randrange(read, 4))
        reads = sorted(chance.sample(range(program.counters), read))
        yield (program, drawn_place(chance, program, chance.choice((2, 6, 100))),
               drawn_target(chance, program), reads, states)


class Examples(Raising):
    def test_trees(self):
        self.assertIs(is_tree(*FIRST, FOUR_LEAVES), True)
        self.assertIs(is_tree(*SECOND, TEN_LEAVES), True)
        for states in range(1, 6):
            self.assertIs(is_tree(*SECOND[:3], (1,), states, TWO_LEAVES), True)
            self.assertIs(is_tree(*SECOND[:3], [1], states, TWO_LEAVES), True)
            # The first counter of the target is 1: its word asks for a move that is not known.
            self.assertIs(is_tree(*SECOND[:3], (0,), states, TWO_LEAVES), False)
        for states in (0, 1, 3):
            self.assertIs(is_tree(*FIRST[:4], states, FOUR_LEAVES), False)
            self.assertIs(is_tree(*SECOND[:4], states, TEN_LEAVES), False)

    def test_leaves_and_depth(self):
        self.assertEqual(leaves_of(FOUR_LEAVES), (("target", (0, (1,))), ("target", (0, (1,))),
                                                  ("step", 0, (0, (0,))), ("start",)))
        self.assertEqual(depth_of(FOUR_LEAVES), 3)
        leaves = leaves_of(TEN_LEAVES)
        self.assertEqual(len(leaves), 10)
        self.assertEqual(leaves[-4], ("step", 0, (0, (5, 0))))
        self.assertEqual(leaves[3:5], (("step", 0, (0, (1, 1))), ("step", 1, (1, (4, 0)))))
        self.assertEqual(depth_of(TEN_LEAVES), 10)
        self.assertEqual(leaves_of(TWO_LEAVES), (("target", (0, (1, 0))), ("start",)))
        self.assertEqual(depth_of(TWO_LEAVES), 1)

    def test_leaves_and_items_without_arms(self):
        self.assertEqual((leaves_of(("start",)), depth_of(("start",))), ((("start",),), 0))
        step = ("step", 0, (0, (1,)))
        self.assertEqual((leaves_of(step), depth_of(step)), ((step,), 0))
        self.assertEqual((leaves_of(("begins", 0, ())), depth_of(("begins", 0, ()))), ((), 1))
        deep = ("begins", 0, (("moves", 0, 0, (("begins", 1, ()),)), ("start",)))
        self.assertEqual((leaves_of(deep), depth_of(deep)), ((("start",),), 3))

    def test_leaf_for(self):
        self.assertEqual(leaf_for(FOUR_LEAVES, Lot(1, ((0, 1), (1, 0)), (True, False), (0,))),
                         (("step", 0, (0, (0,))), (0, 1)))
        self.assertEqual(leaf_for(FOUR_LEAVES, none_of(1, 1)), (("start",), (0,)))
        self.assertEqual(leaf_for(FOUR_LEAVES, all_of(1, 1)), (("target", (0, (1,))), (0,)))
        # The second arm: 0 goes by the column 1 to a new state that is good.
        lot = Lot(1, ((0, 0), (2, 2), (1, 0)), (False, True, True), (1,))
        self.assertEqual(leaf_for(FOUR_LEAVES, lot), (("target", (0, (1,))), (1, 2)))
        # States are named as they come up, whatever their numbers are.
        lot = Lot(2, ((0,) * 4, (1, 0, 0, 1)), (False, True), (1, 0))
        self.assertEqual(leaf_for(TEN_LEAVES, lot), (("step", 0, (0, (0, 0))), (1, 0)))
        self.assertEqual(leaf_for(TWO_LEAVES, lot), (("target", (0, (1, 0))), (1,)))
        self.assertEqual(leaf_for(("start",), lot), (("start",), ()))

    def test_leaf_for_a_table_with_more_states(self):
        # By the column 0 the state 0 goes to another good one.
        lot = Lot(1, ((2, 1), (1, 1), (2, 2)), (True, False, True), (0,))
        self.assertIsNone(leaf_for(FOUR_LEAVES, lot))
        self.assertIsNone(leaf_for(TEN_LEAVES, TURNS_WALL))
        self.assertIsNone(leaf_for(("begins", 0, ()), none_of(1, 1)))
        # A new state that is good has the first of two arms, if there are two.
        tree = ("begins", 0, (("begins", 1, (("start",),)), ("start",)))
        self.assertIsNone(leaf_for(tree, Lot(0, ((0,), (1,)), (True, True), (0, 1))))
        self.assertEqual(leaf_for(tree, Lot(0, ((0,), (1,)), (True, True), (1, 1))),
                         (("start",), (1,)))


class Trees(Raising):
    def test_trees_with_one_thing_changed(self):
        seen = {True: 0, False: 0}
        for told, tree in ((FIRST, FOUR_LEAVES), (SECOND, TEN_LEAVES),
                           ((*SECOND[:3], (1,), 2), TWO_LEAVES)):
            for other in changed(tree):
                truth = slow_is_tree(*told, other)
                self.assertIs(is_tree(*told, other), truth, other)
                seen[truth] += 1
        # Some are trees still: another configuration of the same reading, or two like leaves.
        self.assertGreater(seen[False], 1000)
        self.assertGreater(seen[True], 0)

    def test_trees_for_other_values(self):
        for told, tree in ((FIRST, FOUR_LEAVES), (SECOND, TEN_LEAVES)):
            program, start, target, reads, states = told
            for others in ((program, start, none_of(target.counters, program.locations), reads),
                           (program, start, all_of(target.counters, program.locations), reads),
                           (program, start, target, reads[:1]), (program, start, target, ()),
                           (Program(program.counters, program.locations, ()), start, target, reads),
                           (program, (0, (4,) * program.counters), target, reads)):
                truth = slow_is_tree(*others, states, tree)
                self.assertIs(is_tree(*others, states, tree), truth, others)

    def test_any_values(self):
        for told in (None, 0, True, "start", "", (), [], {}, set(), ("start",), ["start"], ("step",),
                     ("target",), ("begins",), ("moves",), ("begins", 0), ("begins", 0, None),
                     ("begins", 0, ()), ("begins", 0, "ab"), ("moves", 0, 0, ()), (None, 0, ()),
                     (("begins", 0, ()),), ("begins", 0, (None, None)), ("begins", 0, ((), ())),
                     ("begins", [0], ()), ("begins", {}, ()), ("moves", None, {}, ()),
                     ("begins", 0, (("start",), ("start",))), ("begins", 0.0, FOUR_LEAVES[2]),
                     ("begins", False, FOUR_LEAVES[2]), ("begins", 1, FOUR_LEAVES[2]),
                     ("begins", -1, FOUR_LEAVES[2]), (b"begins", 0, FOUR_LEAVES[2]), Lot, ONE):
            self.assertIs(is_tree(*FIRST, told), False, told)

    def test_items_that_ask_what_is_known(self):
        again = ("begins", 0, (("begins", 0, (("start",), ("start",), ("start",))), ("start",)))
        self.assertIs(is_tree(*FIRST, again), False)
        # The same with an item that asks for something new.
        for column, many in ((0, 2), (1, 3)):
            inner = ("moves", 0, column, (("start",),) * many)
            self.assertIs(is_tree(*FIRST, ("begins", 0, (FOUR_LEAVES[2][0], inner))), True)
        # Below a move that is known it may not be asked for again.
        once = ("moves", 0, 0, (("start",), ("start",)))
        twice = ("moves", 0, 0, (once, once))
        self.assertIs(is_tree(*FIRST, ("begins", 0, (FOUR_LEAVES[2][0], twice))), False)
        # A state that is not named yet, a column that there is not, items too long or too short.
        for asked in (("moves", 1, 0), ("moves", 0, 2), ("moves", 0, -1), ("moves", -1, 0),
                      ("moves", 0), ("begins", 1), ("begins", 0, 1), ("begins", 0, 0),
                      ("moves", 0, 0, 0), ("begins",), ("moves",)):
            for many in (1, 2, 3):
                inner = (*asked, (("start",),) * many)
                self.assertIs(is_tree(*FIRST, ("begins", 0, (FOUR_LEAVES[2][0], inner))), False)

    def test_leaves_that_are_not_settled_or_not_wrong(self):
        start = ("start",)
        for leaf in (start, ("target", (0, (0,))), ("target", (0, (1,))), ("step", 0, (0, (0,))),
                     ("target", (0, (3,))), ("step", 1, (0, (0,))), ("step", True, (0, (0,)))):
            self.assertIs(is_tree(*FIRST, leaf), False)
            self.assertIs(is_tree(*FIRST, ("begins", 0, (leaf, start))), False, leaf)
        # All is in the target: 0 is read as in, and nothing more is asked for.
        told = (TWO_MORE, (0, (0,)), all_of(1, 1), (0,), 2)
        self.assertIs(is_tree(*told, ("begins", 0, (("target", (0, (0,))), start))), True)
        self.assertIs(is_tree(*told, ("begins", 0, (("target", (0, (1,))), start))), False)
        self.assertIs(is_tree(*told, ("begins", 0, (start, start))), False)
        self.assertIs(is_tree(*told, ("begins", 0, (start, ("target", (0, (0,)))))), False)

    def test_a_step_that_cannot_be_done(self):
        # Location 1 is out, and the step that leads there takes 4, whatever is read.
        program = Program(1, 2, ((0, (4,), (0,), 1),))
        told = (program, (0, (9,)), just_these(1, 2, ((1, (0,)),)), (), 2)
        for x, truth in ((0, False), (3, False), (4, True), (77, True)):
            step = ("step", 0, (0, (x,)))
            target = ("target", (1, (0,)))
            tree = ("begins", 0, (("begins", 1, (target, target, step)), ("start",)))
            self.assertIs(is_tree(*told, tree), truth)
        for leaf in (("step", 0, (1, (4,))), ("step", 0, (0, (4, 0))), ("step", 0, (0, [4]))):
            tree = ("begins", 0, (("begins", 1, (target, target, leaf)), ("start",)))
            self.assertIs(is_tree(*told, tree), False)

    def test_any_depth(self):
        tree = ("start",)
        for _ in range(3000):
            tree = ("begins", 0, (tree,))
        self.assertIs(is_tree(*FIRST, tree), False)
        self.assertEqual(leaves_of(tree), (("start",),))
        self.assertEqual(depth_of(tree), 3000)

    def test_no_states(self):
        for location in range(2):
            self.assertIs(is_tree(*SECOND[:4], 0, ("begins", location, ())), True)
        for tree in (("begins", 2, ()), ("start",), ("begins", 0, (("start",),)), ("moves", 0, 0, ())):
            self.assertIs(is_tree(*SECOND[:4], 0, tree), False)

    def test_errors_in_order(self):
        for call, more in ((is_tree, (None,)), (cases, ())):
            for start in ([0, (0, 0)], (0, [0, 0]), (2, (0, 0)), (0, (0,)), None):
                self.wrong(BadConfiguration, {"configuration": start}, call, BY_TURNS, start, None,
                           None, None, *more)
            for target in (None, 0, (), all_of(1, 2), all_of(2, 1), ((0,),)):
                self.wrong(BadLot, {"lot": target}, call, BY_TURNS, (0, (0, 0)), target, None, None,
                           *more)
            for reads in (None, (2,), (1, 0), (0, 0), (True,), "0", {}):
                self.wrong(BadReads, {"reads": reads}, call, *SECOND[:3], reads, None, *more)
            for states in NO_NATURALS:
                fields = {"what": "states", "number": states}
                self.wrong(BadNumber, fields, call, *SECOND[:4], states, *more)


class Searches(Raising):
    def is_told(self, told, case):
        """Whether a wall or a tree is told, and that it is one; the kind."""
        program, start, target, reads, states = case
        self.assertIs(told.__class__, tuple)
        kind, found = told
        if kind == "wall":
            self.assertIs(is_wall(program, start, target, found, reads), True)
            self.assertEqual(found.counters, len(reads))
            self.assertLessEqual(len(found.moves), states)
        else:
            self.assertEqual(kind, "tree")
            self.assertTrue(slow_is_tree(*case, found))
            self.assertIs(is_tree(*case, found), True)
            self.assertLessEqual(depth_of(found), states * 2 ** len(reads) + program.locations)
        return kind

    def test_the_documents_examples(self):
        for states, kind in enumerate(("tree", "tree", "tree", "wall", "wall")):
            case = (*FIRST[:4], states)
            self.assertEqual(self.is_told(cases(*case), case), kind)
        for states, kind in enumerate(("tree", "tree", "tree", "wall")):
            case = (*SECOND[:4], states)
            self.assertEqual(self.is_told(cases(*case), case), kind)
            case = (*SECOND[:3], [1], states)
            self.assertEqual(self.is_told(cases(*case), case), "tree")

    def test_no_states_is_a_tree(self):
        for case in drawn_cases(1, 20):
            kind, tree = cases(*case[:4], 0)
            self.assertEqual((kind, tree[0], tree[2]), ("tree", "begins", ()))
            self.assertIs(is_tree(*case[:4], 0, tree), True)

    def test_drawn_ones(self):
        kinds = [self.is_told(cases(*case), case) for case in drawn_cases(2, 200)]
        self.assertGreater(kinds.count("wall"), 30)
        self.assertGreater(kinds.count("tree"), 30)

    def test_walls_of_three_states_that_read_two_counters(self):
        # The first counter is twice the second one, or three times, at both locations.
        for many in (1, 2, 3):
            program = Program(2, 2, ((0, (0, 0), (many, 1), 1), (1, (many, 1), (0, 0), 0)))
            case = (program, (0, (many, 1)), just_these(2, 2, ((1, (many, 2)),)), (0, 1), 3)
            self.assertEqual(self.is_told(cases(*case), case), "wall")

    def test_against_all_tables(self):
        for case in drawn_cases(3, 60, ((1, 0), (2, 0), (1, 1), (2, 1), (1, 2))):
            program, start, target, reads, states = case
            if program.locations <= 2:
                truth = any(is_wall(program, start, target, lot, reads)
                            for k in range(1, states + 1)
                            for lot in all_tables(len(reads), program.locations, k))
                self.assertEqual(self.is_told(cases(*case), case), "wall" if truth else "tree")

    def test_each_table_meets_a_leaf_that_tells_what_is_wrong(self):
        trees = [(FIRST, FOUR_LEAVES), (SECOND, TEN_LEAVES)]
        for case in drawn_cases(4, 80, ((1, 0), (2, 0), (2, 1), (3, 1))):
            kind, tree = cases(*case)
            if kind == "tree":
                trees.append((case, tree))
        self.assertGreater(len(trees), 20)
        chance = random.Random(5)
        for (program, start, target, reads, states), tree in trees:
            leaves = leaves_of(tree)
            for k in range(1, states + 1):
                tables = all_tables(len(reads), program.locations, k)
                for lot in tables:
                    if k < 2 or chance.random() < (0.2 if k == 2 else 0.002):
                        leaf, names = leaf_for(tree, lot)
                        self.assertIn(leaf, leaves)
                        self.assertTrue(is_wrong_in(program, start, target, reads, lot, leaf))
                        self.assertEqual(len(set(names)), len(names))
                        self.assertLessEqual(set(names), set(range(k)))

    def test_never_both(self):
        # A tree for m states has no arm for the answers of some wall of more.
        found = 0
        for case in drawn_cases(6, 150, ((1, 1), (2, 1), (1, 2))):
            kind, tree = cases(*case)
            more, wall = cases(*case[:4], case[4] + 1)
            if kind == "tree" and more == "wall":
                found += 1
                self.assertIsNone(leaf_for(tree, wall))
        self.assertGreater(found, 5)

    def test_like_arguments_like_results(self):
        for case in drawn_cases(7, 10):
            one, other = cases(*case), cases(*case)
            self.assertEqual(one, other)

    def test_nothing_passed_is_changed(self):
        reads = [0, 1]
        cases(*SECOND[:3], reads, 2)
        is_tree(*SECOND[:3], reads, 2, TEN_LEAVES)
        self.assertEqual(reads, [0, 1])


if __name__ == "__main__":
    import unittest

    unittest.main()
