"""The interface's names, each in its own file, and the program's form."""

import ast
import unittest
from importlib import import_module
from inspect import isclass, signature
from pathlib import Path

PACKAGE = Path(__file__).resolve().parent.parent / "agohands"

FUNCTIONS = {
    "turns": {"is_turn": "many thing", "after": "one other", "power": "turn k", "settles": "turn"},
    "webs": {
        "is_web": "thing", "clock": "web", "most_ago": "web",
        "rule_at": "web hand beat", "idle_rules": "web",
    },
    "rows": {"plain_rows": "web beat"},
    "traces": {"trace": "web hand beat * most=500", "source": "web hand beat"},
    "far": {"doing_at": "web hand beat", "scene_at": "web beat", "doings_from": "web hand first count"},
    "windows": {
        "window_at": "web beat", "may_be_window": "web thing", "scene_of": "web window",
        "next_window": "web window", "web_round": "web", "hand_round": "web hand", "scene_round": "web",
    },
    "times": {
        "is_times": "thing", "is_meant": "times beat", "count_below": "times beat", "kth": "times k",
        "both": "one other", "either": "one other", "without": "one other", "beside": "times",
        "moved": "times beats",
    },
    "meetings": {
        "is_test": "web thing", "times_of": "web test", "how_often": "web hand beat",
        "kth_doing": "web hand doing k",
    },
    "likeness": {
        "first_apart": "web hand other its", "first_parted": "web other", "renamed": "web order turn",
        "order_of": "web other", "side_by_side": "web other",
    },
    "stories": {
        "is_story": "thing", "story_doing": "story hand beat", "story_scene": "story beat",
        "story_source": "story hand beat", "changed": "story beat web",
    },
    "papers": {
        "round_paper": "web hand", "source_paper": "web hand beat", "round_fault": "paper", "source_fault": "paper",
    },
    "running": {"running_of": "state"},
    "explains": {
        "is_seen": "thing", "fits": "seen hand * most=12", "explaining": "seen * most=12",
        "left_out": "seen hand * most=12",
    },
    "forgets": {"hangs_on": "web hand beat", "forgets": "web hand", "web_forgets": "web"},
    "keeps": {"kept_copies": "web hand * most=12"},
    "texts": {"show_web": "web", "read_web": "text"},
}
NUMBERS = {"traces": {"MOST_STEPS": 500}, "explains": {"MOST_AGO": 12}}
CLASSES = {
    "errors": "HandError TooLong NoWindow NotLike NoBeat Late NoWeb NoHand NoState NoText NoRow",
    "running": "Running",
    "desk": "Desk",
}
METHODS = {
    "running": {"Running": {
        "__init__": "self web", "go": "self n", "change": "self web", "scene": "self", "did": "self hand ago",
        "now": "self", "kept": "self", "__len__": "self",
    }},
    "desk": {"Desk": {"__init__": "self", "say": "self row"}},
}


class Interface(unittest.TestCase):
    def test_functions(self):
        for file, functions in FUNCTIONS.items():
            module = import_module("agohands." + file)
            for name, arguments in functions.items():
                found = getattr(module, name)
                self.assertEqual(found.__module__, module.__name__, name)
                self.assertEqual(str(signature(found)), f"({', '.join(arguments.split())})", name)

    def test_methods(self):
        for file, classes in METHODS.items():
            module = import_module("agohands." + file)
            for name, methods in classes.items():
                found = getattr(module, name)
                for method, arguments in methods.items():
                    # In the class itself, not in one above it.
                    told = str(signature(vars(found)[method]))
                    self.assertEqual(told, f"({', '.join(arguments.split())})", method)

    def test_numbers(self):
        for file, numbers in NUMBERS.items():
            module = import_module("agohands." + file)
            for name, number in numbers.items():
                self.assertIs(type(getattr(module, name)), int, name)
                self.assertEqual(getattr(module, name), number, name)

    def test_each_is_defined_in_its_file(self):
        for names in (FUNCTIONS, CLASSES):
            for file in names:
                tree = ast.parse((PACKAGE / (file + ".py")).read_text(encoding="utf-8"))
                defined = {part.name for part in tree.body if isinstance(part, (ast.FunctionDef, ast.ClassDef))}
                wanted = names[file].split() if names is CLASSES else names[file]
                self.assertLessEqual(set(wanted), defined, file)

    def test_classes(self):
        for file, names in CLASSES.items():
            module = import_module("agohands." + file)
            for name in names.split():
                found = getattr(module, name)
                self.assertTrue(isclass(found), name)
                self.assertEqual(found.__module__, module.__name__, name)


class Form(unittest.TestCase):
    def files(self):
        found = sorted(PACKAGE.glob("*.py"))
        self.assertIn(PACKAGE / "__init__.py", found)
        return found

    def test_the_package_holds_only_python_files(self):
        for path in PACKAGE.iterdir():
            self.assertTrue(path.suffix == ".py" or path.name == "__pycache__", path)

    def test_rows_and_files_are_short_and_plain(self):
        for path in self.files():
            text = path.read_text(encoding="utf-8")
            self.assertTrue(all(sign == "\n" or " " <= sign <= "~" for sign in text), path)
            rows = text.splitlines()
            self.assertLessEqual(len(rows), 399, path)
            self.assertLessEqual(max(map(len, rows)), 120, path)

    def test_functions_are_short(self):
        for path in self.files():
            for part in ast.walk(ast.parse(path.read_text(encoding="utf-8"))):
                if isinstance(part, ast.FunctionDef):
                    self.assertLessEqual(part.end_lineno - part.lineno + 1, 40, (path, part.name))

    def test_imports_are_from_the_package_or_allowed(self):
        allowed = {"heapq", "math", "itertools", "collections", "__future__"}
        for path in self.files():
            for part in ast.walk(ast.parse(path.read_text(encoding="utf-8"))):
                self.assertNotIsInstance(part, ast.Import, path)
                if isinstance(part, ast.ImportFrom):
                    self.assertEqual(part.level, 0, path)
                    self.assertTrue(part.module in allowed or part.module.startswith("agohands."), path)


if __name__ == "__main__":
    unittest.main()
