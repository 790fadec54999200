"""The form of the package: what can be seen of ../shared/LANGUAGE.md and of the interface without running it."""
import ast
import builtins
import pathlib
import re
import unittest

import redolots

FOLDER = pathlib.Path(redolots.__file__).parent
FILES = sorted(FOLDER.glob("*.py"))

INTERFACE = {
    "errors": {"RedoError": (), "InvalidRule": (), "UnknownPlace": (), "InvalidLine": (), "InvalidRun": (),
               "InvalidGoal": (), "NotPlain": (), "IdleLine": (), "InvalidImage": (), "InvalidText": (), "TooMany": (),
               "TwoRoots": (), "NotARoot": (), "Unsettled": (), "NoSafeLog": (), "NoLog": (), "NotRenaming": (),
               "NothingToUndo": (), "NothingToRedo": (), "InvalidDeed": (), "NotCareful": (), "NotAllowed": (),
               "NotAnchored": (), "NoPlan": (), "Undecided": (), "InvalidMost": ()},
    "images": {"check_image": None, "look": None, "home": None},
    "lines": {"check_script": None, "matches": None, "fires": None, "sources": None, "apply_line": None,
              "look_after": None},
    "plain": {"images": None, "plain_run": None, "flow": None},
    "text": {"script_text": None, "read_script": None},
    "rules": {"Rule": ("first_state", "steps", "is_end", "__or__", "__str__", "is_restart"),
              "FromTop": ("steps", "__str__"), "FromMark": ("steps", "__str__"), "FromPoints": ("steps", "__str__"),
              "Late": ("steps", "__str__"), "Either": ("steps", "__str__")},
    "machines": {"Lagging": ("first_state", "steps", "is_end", "__str__"),
                 "Workers": ("first_state", "steps", "is_end", "__str__"),
                 "Machine": ("first_state", "steps", "is_end", "__str__"), "read_rule": None},
    "runs": {"undisturbed": None, "is_run": None, "is_complete": None, "executed": None, "play": None, "trail": None},
    "compare": {"accepts": None, "compare": None, "judge_within": None},
    "lots": {"reachable": None,
             "Lots": ("places", "end_places", "lot", "end_lot", "is_safe", "final", "table", "run_to", "__len__",
                      "__contains__")},
    "papers": {"judge_table": None, "judge_runs": None, "verdict": None, "wrong_run": None},
    "copylog": {"copies": None, "pairs": None, "origins": None, "matters": None, "idle_lines": None,
                "without_idle": None},
    "spoilers": {"top_spoiler": None, "mark_spoiler": None, "late_spoiler": None, "spoiling_run": None,
                 "strength": None},
    "sweeps": {"safe_lag": None, "late_set": None, "fewest_points": None},
    "joins": {"groups": None, "within_reach": None, "knots": None, "root_sets": None},
    "orders": {"late_order": None, "late_outcomes": None, "reordered": None},
    "repeats": {"late_lots": None, "settled": None, "repeats": None},
    "goals": {"check_goal": None, "homeless": None, "safe_log": None, "least_logs": None, "count_least_logs": None,
              "count_safe_goals": None},
    "shortest": {"closed_rings": None, "fewest_copies": None, "least_log": None},
    "stages": {"is_stage": None, "stages": None, "fewest_stages": None},
    "replacing": {"anchors": None, "unanchored": None, "replace_script": None},
    "movement": {"check_renaming": None, "check_careful": None, "chains": None, "rings": None, "moving": None},
    "plans": {"obstacle": None, "judge_obstacle": None, "plan": None, "fewest_moves": None, "plans": None,
              "count_goals": None},
    "rounds": {"play_story": None, "by_look": None, "is_staircase": None},
    "ends": {"all_ends": None, "unnoticed": None, "telling_blocks": None},
    "hindsight": {"find_run": None},
    "store": {"Store": ("__init__", "at_home", "put", "advance", "crash", "again", "tear", "flush", "change_most",
                        "paper", "disk", "base", "batch", "state", "position", "promised", "flushes", "total",
                        "most_pending")},
    "desk": {"Desk": ("__init__", "put", "advance", "crash", "again", "tear", "flush", "change_most", "undo", "redo",
                      "run_all", "undoable", "redoable")},
}

# What may be imported from outside of the package.
LIBRARY = {"heapq": {"heappush", "heappop"}, "math": {"comb", "factorial", "perm"}, "itertools": {"product", "combinations"}}

BUILTINS = set("""len range enumerate zip min max sum abs sorted reversed int str bool list tuple dict set isinstance ord
    repr any all divmod pow ValueError KeyError NotImplemented property staticmethod classmethod super""".split())
BARRED = set("""type typing enum Enum Flag Generic Protocol ABC ABCMeta namedtuple NamedTuple TypedDict TYPE_CHECKING
    abstractmethod IntEnum StrEnum IntFlag typing_extensions""".split())
METHODS = set("__init__ __eq__ __str__ __repr__ __len__ __or__ __contains__".split())


def trees():
    for path in FILES:
        yield path, ast.parse(path.read_text())


def is_docstring(node):
    return isinstance(node, ast.Expr) and isinstance(node.value, ast.Constant) and isinstance(node.value.value, str)


class FilesTest(unittest.TestCase):
    def test_the_folder_contains_only_python_files(self):
        for path in FOLDER.iterdir():
            if path.name != "__pycache__":
                self.assertTrue(re.fullmatch(r"[a-z_][a-z0-9_]*\.py", path.name), path.name)

    def test_the_package_file_is_a_docstring_alone(self):
        body = ast.parse((FOLDER / "__init__.py").read_text()).body
        self.assertEqual([True], [is_docstring(node) for node in body])

    def test_sizes_and_characters(self):
        for path in FILES:
            text = path.read_text()
            self.assertLess(len(text.splitlines()), 400, path.name)
            self.assertTrue(text.endswith("\n"))
            for number, row in enumerate(text.split("\n"), 1):
                self.assertTrue(len(row) <= 120 and all(" " <= sign <= "~" for sign in row), (path.name, number))

    def test_sizes_of_functions(self):
        for path, tree in trees():
            for node in ast.walk(tree):
                if isinstance(node, ast.FunctionDef):
                    self.assertLessEqual(node.end_lineno - node.lineno, 39, (path.name, node.name))


class StatementsTest(unittest.TestCase):
    def test_module_level(self):
        allowed = (ast.ImportFrom, ast.FunctionDef, ast.ClassDef, ast.Assign)
        for path, tree in trees():
            self.assertTrue(is_docstring(tree.body[0]), path.name)
            for node in tree.body[1:]:
                self.assertIsInstance(node, allowed, (path.name, node.lineno))

    def test_imports(self):
        for path, tree in trees():
            for node in ast.walk(tree):
                self.assertNotIsInstance(node, ast.Import)
                if isinstance(node, ast.ImportFrom):
                    self.assertIn(node, tree.body)
                    self.assertEqual(0, node.level)
                    self.assertEqual([], [name.asname for name in node.names if name.asname])
                    self.assertEqual(set(), {name.name for name in node.names} - self.defined(node.module))

    def defined(self, module):
        if module in LIBRARY:
            return LIBRARY[module]
        self.assertTrue(module.startswith("redolots."), module)
        tree = ast.parse((FOLDER / (module.split(".")[1] + ".py")).read_text())
        found = {node.name for node in tree.body if isinstance(node, (ast.FunctionDef, ast.ClassDef))}
        return found | {node.targets[0].id for node in tree.body if isinstance(node, ast.Assign)}

    def test_statements_that_are_not_used(self):
        for path, tree in trees():
            for node in ast.walk(tree):
                self.assertNotIsInstance(node, (ast.Global, ast.AsyncFunctionDef, ast.TryStar, ast.Div, ast.AnnAssign))
                if isinstance(node, ast.Constant):
                    self.assertNotIsInstance(node.value, (float, complex))

    def test_library_names_are_only_called(self):
        library = set().union(*LIBRARY.values())
        for path, tree in trees():
            called = [node.func for node in ast.walk(tree) if isinstance(node, ast.Call) and not node.keywords]
            for node in ast.walk(tree):
                if isinstance(node, ast.Name) and node.id in library:
                    self.assertIn(node, called, (path.name, node.lineno))

    def test_what_stands_behind_a_star(self):
        for path, tree in trees():
            for node in ast.walk(tree):
                if isinstance(node, ast.Call):
                    for argument in node.args:
                        if isinstance(argument, ast.Starred):
                            self.assertIsInstance(argument.value, (ast.Name, ast.Attribute), (path.name, node.lineno))

    def test_sets_are_used_on_the_spot(self):
        for path, tree in trees():
            parents = {child: node for node in ast.walk(tree) for child in ast.iter_child_nodes(node)}
            for node in ast.walk(tree):
                made = isinstance(node, ast.Call) and isinstance(node.func, ast.Name) and node.func.id == "set"
                if made or isinstance(node, (ast.Set, ast.SetComp)):
                    parent = parents[node]
                    self.assertIsInstance(parent, ast.Call, (path.name, node.lineno))
                    self.assertIn(parent.func.id, ("sorted", "len"), (path.name, node.lineno))

    def test_names_of_imports_are_not_given_twice(self):
        for path, tree in trees():
            names = {name.name for node in tree.body if isinstance(node, ast.ImportFrom) for name in node.names}
            names |= {node.name for node in tree.body if isinstance(node, ast.ClassDef)}
            for node in ast.walk(tree):
                if isinstance(node, ast.Name) and isinstance(node.ctx, ast.Store):
                    self.assertNotIn(node.id, names, (path.name, node.lineno))
                if isinstance(node, ast.arg):
                    self.assertNotIn(node.arg, names, (path.name, node.lineno))

    def test_no_files_import_each_other(self):
        leads = {}
        for path, tree in trees():
            modules = [node.module for node in tree.body if isinstance(node, ast.ImportFrom)]
            leads[path.stem] = {module.split(".")[1] for module in modules if module.startswith("redolots.")}
        while leads:
            free = [name for name in leads if not leads[name] & set(leads)]
            self.assertTrue(free, leads)
            for name in free:
                del leads[name]

    def test_names_of_builtins(self):
        barred = {name for name in dir(builtins) if not name.startswith("_")}
        for path, tree in trees():
            for node in ast.walk(tree):
                if isinstance(node, ast.Name) and isinstance(node.ctx, ast.Load) and node.id in barred:
                    self.assertIn(node.id, BUILTINS, (path.name, node.lineno))
                if isinstance(node, ast.Name) and isinstance(node.ctx, ast.Store):
                    self.assertNotIn(node.id, barred, (path.name, node.lineno))
                if isinstance(node, ast.arg):
                    self.assertNotIn(node.arg, barred, (path.name, node.lineno))

    def test_double_underscores(self):
        for path, tree in trees():
            for node in ast.walk(tree):
                if isinstance(node, (ast.FunctionDef, ast.ClassDef)) and node.name.startswith("__"):
                    self.assertIn(node.name, METHODS, path.name)
                if isinstance(node, ast.Attribute) and node.attr.startswith("__"):
                    self.assertIn(node.attr, METHODS, path.name)

    def test_words_and_strings(self):
        for path, tree in trees():
            documents = {id(node.body[0].value) for node in ast.walk(tree)
                         if isinstance(node, (ast.Module, ast.ClassDef, ast.FunctionDef)) and is_docstring(node.body[0])}
            for node in ast.walk(tree):
                names = [getattr(node, key, "") for key in ("id", "attr", "arg", "name")]
                self.assertFalse(BARRED & {name for name in names if isinstance(name, str)}, path.name)
                if isinstance(node, ast.Constant) and isinstance(node.value, str):
                    self.assertNotIn("%", node.value, path.name)
                    if id(node) not in documents:
                        self.assertFalse(BARRED & set(re.findall(r"\w+", node.value)), path.name)


class InterfaceTest(unittest.TestCase):
    def test_all_is_defined_where_it_is_listed(self):
        for name, told in INTERFACE.items():
            tree = ast.parse((FOLDER / f"{name}.py").read_text())
            found = {node.name: node for node in tree.body if isinstance(node, (ast.FunctionDef, ast.ClassDef))}
            for thing, methods in told.items():
                self.assertIn(thing, found)
                self.assertIsInstance(found[thing], ast.FunctionDef if methods is None else ast.ClassDef)
                for method in methods or ():
                    self.assertIn(method, {node.name for node in found[thing].body
                                           if isinstance(node, ast.FunctionDef)}, thing)


if __name__ == "__main__":
    unittest.main()
