"""The package as a checkout holds it: its files, what they import, and that they run alone."""

import ast
import doctest
import pathlib
import shutil
import subprocess
import sys
import tempfile
import unittest

ROOT = pathlib.Path(__file__).resolve().parent.parent
PACKAGE = ROOT / "splitnames"
LIBRARY = {"heapq", "math", "itertools", "collections"}

# Runs in an empty folder with nothing but the standard library and the package.
ALONE = """
import sys
sys.path.insert(0, sys.argv[1])
from splitnames.errors import SplitError
from splitnames.grid import cell_of, most_names, name_of
from splitnames.splitters import is_outcome, open_results, outcome_schedule, run_splitter
assert cell_of(name_of(3, 4)) == (3, 4) and most_names(3) == 6
assert run_splitter(2, outcome_schedule(["stop", "down"])) == ["stop", "down"]
assert is_outcome(["stop"]) and open_results(1, []) == [["stop"]]
from splitnames.runs import Run, names_after
from splitnames.sets import is_possible, is_routing, routing_for, stuck_diagonal
from splitnames.texts import read_names, read_run, show_names, show_run
assert Run.read(show_run(2, [0] * 4)).names_now == names_after(*read_run("2 0,0,0,0")) == [0, None]
assert is_possible([1, 2]) and stuck_diagonal([1]) == 0 and is_routing([0], routing_for([0]))
assert read_names(show_names([1, 2, 4])) == [1, 2, 4]
from splitnames.schedules import gives_names, schedule_for
from splitnames.counting import count_sets, nth_set, set_number, walk_sets
from splitnames.taken import can_be_taken, full_sets, least_count, next_names
from splitnames.desk import Desk
assert gives_names([2, 1], schedule_for([2, 1])) and nth_set(3, set_number([1, 4, 5])) == [1, 4, 5]
assert count_sets(2) == len(list(walk_sets(2))) == 3 and list(full_sets(3, [2, 3])) == [[1, 2, 3], [2, 3, 4]]
assert can_be_taken(4, [3, 5]) and least_count([3, 5]) == 4 and next_names(2, [0]) == [1, 2]
assert [Desk().execute(row) for row in ["run 2", "plan 0"]] == ["ok", "0,0,0,0"]
assert not [path for path in sys.path if "site-packages" in path]
print("ran alone")
"""


def package_files():
    return [path for path in sorted(PACKAGE.rglob("*")) if "__pycache__" not in path.parts]


class Checkout(unittest.TestCase):
    def test_package_runs_alone(self):
        with tempfile.TemporaryDirectory() as folder:
            shutil.copytree(PACKAGE, pathlib.Path(folder) / "splitnames", ignore=shutil.ignore_patterns("__pycache__"))
            told = subprocess.run([sys.executable, "-I", "-S", "-B", "-c", ALONE, folder], cwd=folder,
                                  capture_output=True, text=True)
        self.assertEqual((told.returncode, told.stdout, told.stderr), (0, "ran alone\n", ""))

    def test_package_holds_only_python_files(self):
        for path in package_files():
            with self.subTest(path=path.name):
                self.assertEqual(path.suffix, ".py")
                self.assertFalse(path.name.startswith("test"))
        self.assertIn(PACKAGE / "__init__.py", package_files())

    def test_imports(self):
        for path in package_files():
            for node in ast.walk(ast.parse(path.read_text())):
                with self.subTest(path=path.name):
                    self.assertNotIsInstance(node, ast.Import)
                    if isinstance(node, ast.ImportFrom):
                        self.assertEqual(node.level, 0)
                        self.assertIn(node.module.split(".")[0], LIBRARY | {"splitnames"})

    def test_sizes_and_signs(self):
        for path in package_files():
            text = path.read_text()
            with self.subTest(path=path.name):
                self.assertLessEqual(len(text.splitlines()), 399)
                self.assertLessEqual(max(map(len, text.splitlines())), 120)
                self.assertEqual([sign for sign in text if sign != "\n" and not " " <= sign <= "~"], [])
                for node in ast.walk(ast.parse(text)):
                    if isinstance(node, ast.FunctionDef):
                        self.assertLessEqual(node.end_lineno - node.lineno + 1, 40)

    def test_examples_of_the_readme(self):
        told = doctest.testfile(str(ROOT / "README.md"), module_relative=False)
        self.assertEqual(told.failed, 0)
        self.assertGreater(told.attempted, 0)


if __name__ == "__main__":
    unittest.main()
