"""The package keeps to its subset of the language; a few checks here are narrower than the rules."""

import ast
import builtins
import os
import re
import unittest

ROOT = os.path.dirname(os.path.dirname(os.path.abspath(__file__)))
PACKAGE = os.path.join(ROOT, "ghostcords")

BUILTINS = set("""len range enumerate zip min max sum abs sorted reversed int str bool list tuple dict set isinstance
repr any all divmod type Exception ValueError staticmethod classmethod property super""".split())
MATH = ("gcd",)
BUILTIN_METHODS = set("""append clear copy count endswith extend find get index insert isalnum isalpha isdigit islower
isspace isupper items join keys ljust lower lstrip partition pop remove replace reverse rfind rjust rpartition rsplit
rstrip setdefault split splitlines startswith strip update upper values zfill bit_length add discard""".split())
BARRED = set("""register mro elements open input law version_info with_traceback add_note attrgetter breakpoint builtins
compile copyright credits delattr dir eval exec exit gc getattr globals hasattr help id importlib license locals
methodcaller os quit setattr super vars sys typing enum Enum Generic Protocol ABC namedtuple dataclass""".split())
NODES = set("""Module Expr Constant ImportFrom alias FunctionDef arguments arg ClassDef Assign AugAssign Return If While
For Break Continue Pass Raise Call Name Attribute Subscript Slice Load Store BinOp UnaryOp BoolOp Compare IfExp List
Tuple Dict Set ListComp DictComp SetComp comprehension JoinedStr FormattedValue Starred keyword Add Sub Mult FloorDiv
Mod Try ExceptHandler And Or Not USub Invert Yield LShift Eq NotEq Lt LtE Gt GtE Is IsNot In NotIn""".split())
METHODS = set("""__init__ __eq__ __str__ __len__ __bool__ __mul__ __invert__ __add__ __sub__ __neg__ __call__
__contains__""".split())
BOTH = ("root", "number")
DECORATORS = ("staticmethod", "classmethod", "property")
QUIET = METHODS - {"__init__", "__call__"}
LISTED = {
    "papers": {"Paper": ["__init__", "__eq__"], "Denial": ["__init__", "__eq__"]},
    "words": {"Word": ["__init__", "__len__", "__mul__", "__invert__", "count", "without", "as_one", "renamed", "__eq__",
                       "__str__", "read"]},
    "readings": {"Reading": ["__init__", "count", "counts", "of", "__mul__", "__invert__", "repeated", "root", "within",
                             "as_one", "__eq__", "__str__", "read"]},
    "tangles": {"Tangle": ["__init__", "__len__", "__mul__", "__invert__", "mirrored", "without", "beside", "__eq__",
                           "__str__", "read"]},
    "forms": {"Form": ["__init__", "number", "reading", "__eq__", "__str__", "read"]},
    "tables": {"Fits": ["__init__"], "Breaks": ["__init__"]},
    "real": {"Alike": ["__init__"], "Parted": ["__init__"], "Real": ["__init__"], "Unreal": ["__init__"]},
    "below": {"Root": ["__init__"], "NoRoot": ["__init__"]},
    "beside": {"Past": ["__init__"], "Crosswise": ["__init__"]},
    "families": {"Family": ["__init__", "holds", "all_held", "without", "__eq__", "__str__", "read"]},
    "cuts": {"Cut": ["__init__"], "Cheapest": ["__init__"]},
    "sayings": {"Saying": ["is_so", "__eq__", "__str__", "read"], "Held": ["__init__", "is_so", "__eq__", "__str__"],
                "Free": ["__init__", "is_so", "__eq__", "__str__"], "Least": ["__init__", "is_so", "__eq__", "__str__"],
                "Spare": ["__init__", "is_so", "__eq__", "__str__"], "Falls": ["__init__", "is_so", "__eq__", "__str__"]},
    "books": {"Book": ["__init__", "__len__", "with_fact", "without", "keeps", "__eq__"]},
    "answers": {"Kept": ["__init__"], "NotKept": ["__init__"], "Surely": ["__init__"], "Never": ["__init__"],
                "Either": ["__init__"], "Struck": ["__init__"]},
    "polynomials": {"Binomial": ["__init__", "at", "__add__", "__sub__", "__mul__", "__neg__", "put", "__eq__"]},
    "patterns": {"Pattern": ["__init__", "__len__", "__mul__", "__invert__", "put", "__eq__", "word_at", "at"]},
    "weaves": {"Weave": ["__init__", "__len__", "__mul__", "__invert__", "put", "__eq__", "at"]},
    "when": {"AllTimes": ["__init__"], "JustTimes": ["__init__"]},
    "whole": {"Whole": ["__init__"], "Torn": ["__init__"]},
    "rings": {"Closed": ["__eq__", "is_apart", "pairs", "mirrored", "backwards", "exchanged"],
              "Pair": ["__init__", "apart", "__str__", "read"],
              "Rings": ["__init__", "apart", "without", "__str__", "read"],
              "OneRing": ["__init__"], "TwoRings": ["__init__"]},
    "passes": {"Passes": ["__init__"], "Barred": ["__init__"]},
    "lofts": {"Loft": ["__init__", "names", "book", "thing", "__eq__"]},
    "desk": {"Desk": ["__init__", "__call__", "__len__", "__contains__", "__eq__", "told", "tried", "undo", "redo", "twin"]},
}
FUNCTIONS = {
    "checks": "is_integer is_within is_name is_cord is_row is_lot is_leading row_key first_twice",
    "papers": "fixed",
    "ghosts": "struck put_in swapped swaps",
    "windings": "leading_rows winding exponents from_exponents word_for letters_of",
    "tables": "fits",
    "check_tables": "shows_fits",
    "names": "order_behind names_behind name reading readings",
    "slides": "slides slid put_in",
    "forms": "places_of form_of",
    "knit": "wind knit crossings_of",
    "real": "alike all_readings real",
    "check_forms": "shows_alike shows_knit shows_real",
    "below": "below undoing repeated root_of left_out widened full_round",
    "beside": "beside named lots_past go_past",
    "check_below": "shows_past shows_root",
    "holds": "is_held held least_held loose spare",
    "families": "families family_of form_for joined both",
    "cuts": "is_cut least_cuts fewest_cut cheapest_cut",
    "check_cuts": "shows_cut shows_cheapest",
    "answers": "clash possible least_family greatest_family word_of struck",
    "check_answers": "shows_possible shows_word shows_struck",
    "polynomials": "through",
    "roots": "roots_of common_roots",
    "patterns": "counted",
    "weaves": "number_of",
    "when": "alike_for free_for",
    "check_times": "shows_times shows_free",
    "pictures": "pictures missing_lots seen_places unseen_places",
    "whole": "whole filled told_of",
    "check_pictures": "shows_whole",
    "rings": "rings_of opened same_turns put_round last_by same_rings",
    "passes": "let_through passed fewest_passes",
    "check_rings": "shows_rings shows_passes",
    "desk_lines": "read_line",
    "desk_deeds": "changed",
    "desk_asks": "answer_of",
    "stories": "replay parting merged",
}


def sources():
    found = {}
    for file_name in sorted(os.listdir(PACKAGE)):
        if file_name != "__pycache__":
            with open(os.path.join(PACKAGE, file_name), encoding="utf-8") as file:
                found[file_name] = file.read()
    return found


SOURCES = sources()
TREES = {file_name: ast.parse(source) for file_name, source in SOURCES.items()}


def module_names(tree):
    names = {}
    for node in tree.body:
        if isinstance(node, (ast.FunctionDef, ast.ClassDef)):
            names[node.name] = node
        elif isinstance(node, ast.Assign):
            names[node.targets[0].id] = node
    return names


def imported_names(tree):
    return {alias.name for node in tree.body if isinstance(node, ast.ImportFrom) for alias in node.names}


def functions(tree):
    return [node for node in ast.walk(tree) if isinstance(node, ast.FunctionDef)]


def local_names(function):
    arguments = function.args
    names = {arg.arg for arg in arguments.args + arguments.kwonlyargs}
    if arguments.vararg:
        names.add(arguments.vararg.arg)
    stored = {node.id for node in ast.walk(function) if isinstance(node, ast.Name) and isinstance(node.ctx, ast.Store)}
    caught = {node.name for node in ast.walk(function) if isinstance(node, ast.ExceptHandler) and node.name}
    return names | stored | caught


def called_by(some):
    """The names that these functions call, as functions or as methods."""
    calls = [node.func for function in some for node in ast.walk(function) if isinstance(node, ast.Call)]
    return {call.id if isinstance(call, ast.Name) else call.attr for call in calls}


def quiet_functions():
    """Operators, properties, and all that they may call, by names alone."""
    own = [function for tree in TREES.values() for function in functions(tree)]
    decorated = {function: {node.id for node in function.decorator_list} for function in own}
    found = [function for function in own if function.name in QUIET or "property" in decorated[function]]
    makers = {node.name: function for tree in TREES.values() for node in tree.body if isinstance(node, ast.ClassDef)
              for function in functions(node) if function.name == "__init__"}
    waiting = list(found)
    while waiting:
        names = called_by([waiting.pop()])
        more = [function for function in own if function.name in names and function not in found]
        more += [function for name, function in makers.items() if name in names and function not in found]
        found += more
        waiting += more
    return found


def docstrings(tree):
    nodes = [node for node in ast.walk(tree) if isinstance(node, (ast.Module, ast.FunctionDef, ast.ClassDef))]
    return {id(node.body[0].value) for node in nodes if node.body and isinstance(node.body[0], ast.Expr)}


class Language(unittest.TestCase):
    def each(self):
        for file_name, tree in TREES.items():
            with self.subTest(file=file_name):
                yield file_name, tree

    def test_files(self):
        for file_name, source in SOURCES.items():
            with self.subTest(file=file_name):
                self.assertRegex(file_name, r"^[a-z_]+\.py$")
                self.assertTrue(all(sign == "\n" or " " <= sign <= "~" for sign in source))
                self.assertLessEqual(len(source.splitlines()), 399)
                self.assertLessEqual(max(map(len, source.splitlines())), 120)
                self.assertNotIn("_wall", source)

    def test_nodes(self):
        for _, tree in self.each():
            for node in ast.walk(tree):
                self.assertIn(type(node).__name__, NODES, getattr(node, "lineno", 0))
                self.assertFalse(isinstance(node, ast.Constant) and isinstance(node.value, float))

    def test_sizes(self):
        for _, tree in self.each():
            for function in functions(tree):
                self.assertLessEqual(function.end_lineno - function.lineno + 1, 40, function.name)
                self.assertFalse(any(isinstance(node, ast.FunctionDef) for node in ast.walk(function)
                                     if node is not function), function.name)

    def test_module_level(self):
        for _, tree in self.each():
            for node in tree.body[1:]:
                if isinstance(node, ast.Assign):
                    self.assertEqual(len(node.targets), 1)
                    self.check_table(node, tree)
                else:
                    self.assertIsInstance(node, (ast.ImportFrom, ast.FunctionDef, ast.ClassDef))
            self.assertIsInstance(tree.body[0].value.value, str)

    def check_table(self, node, tree):
        """What is assigned at module level is plain, or a dict of functions that are defined above it."""
        if not (isinstance(node.value, ast.Dict) and all(isinstance(own, ast.Name) for own in node.value.values)):
            ast.literal_eval(node.value)
            return
        above = {own.name for own in tree.body if isinstance(own, ast.FunctionDef) and own.lineno < node.lineno}
        self.assertEqual({own.id for own in node.value.values} - above, set())
        for key in node.value.keys:
            self.assertIsInstance(key.value, str)

    def test_handlers(self):
        errors = module_names(TREES["errors.py"])
        for _, tree in self.each():
            for node in ast.walk(tree):
                if isinstance(node, ast.Try):
                    self.assertEqual((len(node.handlers), node.orelse, node.finalbody), (1, [], []))
                    self.assertIn(node.handlers[0].type.id, errors)

    def test_imports(self):
        places = {file_name: index for index, file_name in enumerate(TREES)}
        for file_name, tree in self.each():
            rest = [node for node in tree.body[1:] if not isinstance(node, ast.ImportFrom)]
            for node in tree.body:
                if isinstance(node, ast.ImportFrom) and node.module == "math":
                    self.assertTrue(all(alias.name in MATH and alias.asname is None for alias in node.names))
                elif isinstance(node, ast.ImportFrom):
                    self.assertTrue(node.module.startswith("ghostcords.") and node.level == 0)
                    other = node.module.split(".")[1] + ".py"
                    self.assertIn(other, places)
                    for alias in node.names:
                        self.assertIsNone(alias.asname)
                        self.assertIn(alias.name, module_names(TREES[other]))
                    self.assertTrue(all(node.lineno < later.lineno for later in rest))

    def test_imports_are_used_and_go_one_way(self):
        imports = {}
        for file_name, tree in self.each():
            used = {node.id for node in ast.walk(tree) if isinstance(node, ast.Name)}
            for name in imported_names(tree):
                self.assertIn(name, used)
            imports[file_name] = {node.module.split(".")[1] + ".py" for node in tree.body
                                  if isinstance(node, ast.ImportFrom) and node.module != "math"}
        done = set()
        while len(done) < len(imports):
            ready = [file_name for file_name in imports if file_name not in done and imports[file_name] <= done]
            self.assertTrue(ready, "files import from each other")
            done.update(ready)

    def test_names(self):
        for _, tree in self.each():
            top = list(module_names(tree)) + sorted(imported_names(tree))
            self.assertEqual(len(top), len(set(top)))
            classes = {name for name, node in module_names(tree).items() if isinstance(node, ast.ClassDef)}
            for name in top:
                self.assertFalse(hasattr(builtins, name), name)
            for function in functions(tree):
                for name in local_names(function):
                    self.assertRegex(name, r"^(_|[A-Za-z][A-Za-z0-9_]*)$")
                    self.assertFalse(hasattr(builtins, name), name)
                    self.assertNotIn(name, BARRED)
                    self.assertNotIn(name, classes | imported_names(tree), name)

    def test_names_that_are_read(self):
        for _, tree in self.each():
            known = set(module_names(tree)) | imported_names(tree) | BUILTINS
            for function in functions(tree):
                locals_here = local_names(function)
                for node in ast.walk(function):
                    if isinstance(node, ast.Name) and isinstance(node.ctx, ast.Load):
                        self.assertIn(node.id, known | locals_here)
                        self.assertNotEqual(node.id, "_")

    def test_methods(self):
        own = {function.name for tree in TREES.values() for node in tree.body if isinstance(node, ast.ClassDef)
               for function in functions(node)}
        for _, tree in self.each():
            for node in ast.walk(tree):
                if isinstance(node, ast.Call) and isinstance(node.func, ast.Attribute):
                    self.assertIn(node.func.attr, own | BUILTIN_METHODS)
                if isinstance(node, ast.Call):
                    self.assertIsInstance(node.func, (ast.Name, ast.Attribute))
                if isinstance(node, ast.ClassDef):
                    for function in functions(node):
                        if function.name.startswith("__"):
                            self.assertIn(function.name, METHODS)
                        for decorator in function.decorator_list:
                            self.assertIn(decorator.id, DECORATORS)

    def test_attributes_are_not_methods(self):
        stored = {node.attr for tree in TREES.values() for node in ast.walk(tree)
                  if isinstance(node, ast.Attribute) and isinstance(node.ctx, ast.Store)}
        called = called_by(quiet_functions())
        for _, tree in self.each():
            for node in tree.body:
                if isinstance(node, ast.ClassDef):
                    here = {own.attr for own in ast.walk(node)
                            if isinstance(own, ast.Attribute) and isinstance(own.ctx, ast.Store)}
                    for function in functions(node):
                        if function.name in stored:
                            # The interface has a method and an attribute of a paper of one name.
                            self.assertIn(function.name, BOTH)
                            self.assertEqual(function.decorator_list, [])
                            self.assertNotIn(function.name, here | called)
        for name in stored:
            self.assertRegex(name, r"^_?[a-z][a-z_]*$")
            for value in ("", 0, [], {}, set(), b""):
                self.assertFalse(hasattr(value, name), name)

    def test_methods_are_not_read_off_classes(self):
        classes = {name: node for tree in TREES.values() for name, node in module_names(tree).items()
                   if isinstance(node, ast.ClassDef)}
        for _, tree in self.each():
            for node in ast.walk(tree):
                if isinstance(node, ast.Attribute) and isinstance(node.value, ast.Name) and node.value.id in classes:
                    own = [function for function in functions(classes[node.value.id]) if function.name == node.attr]
                    decorators = [name.id for function in own for name in function.decorator_list]
                    self.assertIn(decorators, (["staticmethod"], ["classmethod"]), node.attr)

    def test_generators(self):
        own = [function for tree in TREES.values() for function in functions(tree)]
        yielding = [function for function in own if any(isinstance(node, ast.Yield) for node in ast.walk(function))]
        for generator in yielding:
            self.assertEqual([function.name for function in own].count(generator.name), 1)
            self.assertNotIn(generator.name, BUILTIN_METHODS)
            for tree in TREES.values():
                for node in ast.walk(tree):
                    self.assertFalse(isinstance(node, ast.Name) and node.id == generator.name, generator.name)

    def test_sets_are_sorted_measured_or_asked(self):
        for _, tree in self.each():
            parents = {child: node for node in ast.walk(tree) for child in ast.iter_child_nodes(node)}
            for node in ast.walk(tree):
                made = isinstance(node, ast.Call) and isinstance(node.func, ast.Name) and node.func.id == "set"
                if made or isinstance(node, (ast.Set, ast.SetComp)):
                    parent = parents[node]
                    if isinstance(parent, ast.Assign):
                        self.assertIsInstance(parent.targets[0], ast.Name)
                    elif isinstance(parent, ast.Call):
                        self.assertIn(parent.func.id, ("sorted", "len"))
                    else:
                        self.assertIsInstance(parent, ast.Compare)
                self.assertFalse(isinstance(node, ast.Set) and any(isinstance(own, ast.Starred) for own in node.elts))

    def test_views_and_ranges_are_not_kept(self):
        kept = ("zip", "enumerate", "reversed", "map", "items", "keys", "values")
        for _, tree in self.each():
            for function in functions(tree):
                names = kept + (("range",) if function.name.startswith("__") and function.name != "__init__" else ())
                for node in ast.walk(function):
                    if isinstance(node, (ast.Assign, ast.Return)) and isinstance(node.value, ast.Call):
                        called = node.value.func
                        self.assertNotIn(called.id if isinstance(called, ast.Name) else called.attr, names, node.lineno)

    def test_raises(self):
        errors = module_names(TREES["errors.py"])
        for _, tree in self.each():
            for node in ast.walk(tree):
                if isinstance(node, ast.Raise):
                    self.assertIsInstance(node.exc, ast.Call)
                    self.assertIn(node.exc.func.id, errors)
                    self.assertIsNone(node.cause)

    def test_comparisons_by_is(self):
        for _, tree in self.each():
            for node in ast.walk(tree):
                if isinstance(node, ast.Compare) and any(isinstance(op, (ast.Is, ast.IsNot)) for op in node.ops):
                    by_type = isinstance(node.left, ast.Call) and node.left.func.id == "type"
                    constant = isinstance(node.comparators[0], ast.Constant)
                    self.assertTrue(by_type or constant, node.lineno)

    def test_strings(self):
        for _, tree in self.each():
            told = docstrings(tree)
            for node in ast.walk(tree):
                if isinstance(node, ast.Constant) and isinstance(node.value, str) and id(node) not in told:
                    self.assertNotIn("%", node.value)
                    self.assertIsNone(re.search(r"\btype\b|__", node.value))

    def test_short_methods_of_values(self):
        for _, tree in self.each():
            for function in functions(tree):
                if function.name in ("__len__", "__str__", "__eq__", "__bool__"):
                    self.assertIsInstance(function.body[-1], ast.Return)
                    self.assertEqual(len(function.body), 1)
                if function.name == "__str__":
                    call = function.body[0].value
                    self.assertEqual((call.func.attr, call.func.value.value), ("join", " "))

    def test_every_function_says_why_it_is_there(self):
        for _, tree in self.each():
            for function in functions(tree):
                if not function.name.startswith("__"):
                    self.assertTrue(ast.get_docstring(function), function.name)

    def test_loops_do_not_change_what_they_go_over(self):
        changing = ("append", "extend", "pop", "remove", "insert", "clear", "update", "add", "discard")
        for _, tree in self.each():
            for loop in [node for node in ast.walk(tree) if isinstance(node, ast.For)]:
                over = {node.id for node in ast.walk(loop.iter) if isinstance(node, ast.Name)}
                if isinstance(loop.iter, ast.Call) and getattr(loop.iter.func, "id", "") in ("list", "range"):
                    continue
                for node in ast.walk(loop):
                    if isinstance(node, ast.Call) and isinstance(node.func, ast.Attribute):
                        if node.func.attr in changing and isinstance(node.func.value, ast.Name):
                            self.assertNotIn(node.func.value.id, over)
                    if isinstance(node, ast.Subscript) and isinstance(node.ctx, ast.Store):
                        if isinstance(node.value, ast.Name):
                            self.assertNotIn(node.value.id, over)


class Interface(unittest.TestCase):
    def test_listed_methods_stand_in_their_classes(self):
        for module, classes in LISTED.items():
            for name, methods in classes.items():
                node = module_names(TREES[module + ".py"])[name]
                own = {function.name for function in functions(node)}
                self.assertEqual(set(methods) - own, set(), name)

    def test_listed_functions_stand_in_their_files(self):
        for module, names in FUNCTIONS.items():
            for name in names.split():
                self.assertIsInstance(module_names(TREES[module + ".py"])[name], ast.FunctionDef)


if __name__ == "__main__":
    unittest.main()
