"""The rules of the language of this program that can be told from its code alone."""

import ast
import os
import unittest

PACKAGE = os.path.join(os.path.dirname(os.path.dirname(os.path.abspath(__file__))), "numberwall")
BUILTINS = """len range enumerate zip min max sum abs sorted reversed int str bool bytes list tuple dict
set isinstance ord repr any all divmod map iter next getattr hasattr setattr type super""".split()
LIBRARY = {"heapq": ("heappush", "heappop", "heapify", "heapreplace", "heappushpop"),
           "math": ("gcd", "lcm", "isqrt", "comb", "perm", "factorial"),
           "itertools": ("product", "combinations", "permutations", "chain", "accumulate",
                         "pairwise", "islice", "zip_longest"),
           "collections": ("defaultdict", "deque")}
FORBIDDEN = (ast.AsyncFunctionDef, ast.AsyncFor, ast.AsyncWith, ast.Await, ast.Import, ast.TryStar,
             ast.Div, ast.MatMult)
# By the file that lists them: what must be defined in it, classes with their methods.
INTERFACE = {
    "texts.py": {"Spoken": ("__init__", "__eq__"), "spoken_of": None, "text_of": None,
                 "formula_text": None, "formula_of": None},
    "programs.py": {"Program": ("__init__", "__eq__"), "is_configuration": None, "steps_at": None,
                    "next_one": None, "behind_run": None, "layers": None, "run_to": None,
                    "turned": None, "cut": None},
    "lots.py": {"Lot": ("__init__", "__eq__"), "word_of": None, "row_of": None, "read": None,
                "is_in": None, "all_of": None, "none_of": None, "meet": None, "join": None,
                "left_out": None, "spread": None, "least": None, "is_equal": None,
                "least_in": None, "all_in": None, "just_these": None, "some": None},
    "formulas.py": {"is_formula": None, "worth": None, "holds": None, "lot_of": None,
                    "least_case": None, "witness": None},
    "walls.py": {"ahead": None, "behind": None, "first_wrong": None, "is_wall": None},
    "trees.py": {"is_tree": None, "leaves_of": None, "depth_of": None, "leaf_for": None,
                 "cases": None},
    "settling.py": {"Run": ("__init__", "__eq__"), "Wall": ("__init__", "__eq__"),
                    "Neither": ("__init__", "__eq__"), "settle": None, "is_settled": None},
    "weights.py": {"Flow": ("__init__", "__eq__"), "Sinking": ("__init__", "__eq__"),
                   "Wholes": ("__init__", "__eq__"), "Steady": ("__init__", "__eq__"),
                   "Ratios": ("__init__", "__eq__"), "Equal": ("__init__", "__eq__"),
                   "weights_equal": None, "weights_below": None, "weights_like": None,
                   "by_parts": None, "by_wholes": None, "by_ratios": None, "is_by_parts": None,
                   "is_by_wholes": None, "is_by_ratios": None},
    "graphs.py": {"Led": ("__init__", "__eq__"), "Barred": ("__init__", "__eq__"),
                  "check_graph": None, "empty_ring": None, "graph_run": None,
                  "is_graph_told": None},
    "joinfree.py": {"need_joinless": None, "is_fed": None, "fed_supports": None,
                    "run_by_counts": None, "reached": None, "counts_to": None, "run_into": None},
    "processes.py": {"Crowd": ("__init__", "__eq__"), "check_crowd": None, "program_of": None,
                     "start_of": None, "counter_of": None, "row_of": None, "alone": None,
                     "all_at": None, "stuck": None},
    "promises.py": {"promise_of": None, "promise_text": None},
    "workshops.py": {"Workshop": ("__init__", "text", "names", "promises", "get", "kept", "put",
                                  "drop", "rename", "set_start", "keep", "release", "undo", "redo",
                                  "attempt", "trial")},
}


def sources():
    for name in sorted(os.listdir(PACKAGE)):
        if name != "__pycache__":
            with open(os.path.join(PACKAGE, name), encoding="utf-8", newline="") as file:
                yield name, file.read()


def imports_of(tree):
    return [node for node in ast.walk(tree) if isinstance(node, ast.ImportFrom)]


class Language(unittest.TestCase):
    def test_files_and_signs(self):
        for name, text in sources():
            self.assertRegex(name, r"\A(__init__|[a-z][a-z_0-9]*)\.py\Z")
            self.assertLess(text.count("\n"), 400, name)
            for line in text.split("\n"):
                self.assertLessEqual(len(line), 120, (name, line))
                self.assertTrue(all(" " <= sign <= "~" for sign in line), (name, line))

    def test_functions_are_short(self):
        for name, text in sources():
            for node in ast.walk(ast.parse(text)):
                if isinstance(node, ast.FunctionDef):
                    self.assertLessEqual(node.end_lineno - node.lineno + 1, 40, (name, node.name))
                    self.assertEqual(node.decorator_list, [])

    def test_imports(self):
        defined = {name[:-3]: {node.name for node in ast.parse(text).body
                               if isinstance(node, (ast.FunctionDef, ast.ClassDef))}
                   for name, text in sources()}
        for name, text in sources():
            for node in imports_of(ast.parse(text)):
                self.assertEqual(node.level, 0, name)
                self.assertTrue(all(one.asname is None for one in node.names), name)
                names = {one.name for one in node.names}
                if node.module in LIBRARY:
                    self.assertLessEqual(names, set(LIBRARY[node.module]), name)
                else:
                    package, module = node.module.split(".")
                    self.assertEqual(package, "numberwall", name)
                    small = {one for one in names if one != one.upper()}
                    self.assertLessEqual(small, defined[module], name)

    def test_no_two_files_import_each_other(self):
        behind = {name[:-3]: [node.module.split(".")[-1] for node in imports_of(ast.parse(text))]
                  for name, text in sources()}
        for name in behind:
            seen, todo = set(), list(behind[name])
            while todo:
                one = todo.pop()
                if one not in seen:
                    seen.add(one)
                    todo.extend(behind.get(one, ()))
            self.assertNotIn(name, seen)

    def test_every_import_is_used(self):
        for name, text in sources():
            tree = ast.parse(text)
            used = {node.id for node in ast.walk(tree) if isinstance(node, ast.Name)}
            for node in imports_of(tree):
                self.assertLessEqual({one.name for one in node.names}, used, name)

    def test_no_forbidden_piece(self):
        for name, text in sources():
            for node in ast.walk(ast.parse(text)):
                self.assertNotIsInstance(node, FORBIDDEN, name)
                if isinstance(node, ast.Constant):
                    self.assertNotIsInstance(node.value, (float, complex), name)
                    self.assertNotIn("%", str(node.value), name)
                if isinstance(node, ast.Call):
                    self.no_generator_in(node, name)
                    for one in node.args:
                        if isinstance(one, ast.Starred):
                            self.assertIsInstance(one.value, (ast.Name, ast.Attribute), name)

    def no_generator_in(self, call, name):
        """Classes here compare, so these take lists."""
        if isinstance(call.func, ast.Name) and call.func.id in ("any", "all", "min", "max", "sum",
                                                                 "sorted"):
            self.assertFalse([one for one in call.args if isinstance(one, ast.GeneratorExp)], name)

    def test_names_of_builtins_are_not_taken_and_no_other_is_called(self):
        every = set(dir(__builtins__) if not isinstance(__builtins__, dict) else __builtins__)
        for name, text in sources():
            tree = ast.parse(text)
            bound = {node.id for node in ast.walk(tree) if isinstance(node, ast.Name)
                     and isinstance(node.ctx, ast.Store)}
            bound |= {node.arg for node in ast.walk(tree) if isinstance(node, ast.arg)}
            bound |= {node.name for node in ast.walk(tree) if isinstance(node, (ast.FunctionDef,
                                                                                ast.ClassDef))}
            self.assertEqual((bound & every) - {"_"}, set(), name)
            imported = {one.name for node in imports_of(tree) for one in node.names}
            self.assertEqual(bound & imported, set(), name)
            read = {node.id for node in ast.walk(tree) if isinstance(node, ast.Name)}
            errors = {"ValueError", "KeyError", "StopIteration", "NotImplemented"}
            self.assertLessEqual(read & every, set(BUILTINS) | errors | {"_"}, name)

    def test_the_interface_stands_in_its_files(self):
        trees = {name: ast.parse(text) for name, text in sources()}
        for name, wanted in INTERFACE.items():
            defined = {node.name: node for node in trees[name].body
                       if isinstance(node, (ast.FunctionDef, ast.ClassDef))}
            for one, methods in wanted.items():
                self.assertIn(one, defined)
                self.assertEqual(isinstance(defined[one], ast.ClassDef), methods is not None)
                own = {node.name for node in ast.walk(defined[one])
                       if isinstance(node, ast.FunctionDef)}
                self.assertLessEqual(set(methods or ()), own)


if __name__ == "__main__":
    unittest.main()
