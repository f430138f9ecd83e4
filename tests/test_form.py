"""The form of the package's files: what can be seen at once of the rules L1, L2, L10, L14 and L16."""

import ast
import builtins
import os
import re
import tempfile
import unittest

PACKAGE = "monochord"
ROOT = os.path.dirname(os.path.dirname(os.path.abspath(__file__)))

LIBRARY = {
    "__future__": ("annotations",),
    "heapq": ("heappush", "heappop", "heapify", "heapreplace", "heappushpop"),
    "math": ("gcd", "lcm", "isqrt", "comb", "perm", "factorial"),
    "itertools": (
        "product", "combinations", "permutations", "chain", "accumulate", "pairwise", "islice", "zip_longest",
    ),
    "collections": ("defaultdict", "deque"),
}

BARRED_NAMES = ("test", "tests", "testing", "site", "conftest", "sitecustomize", "usercustomize")

MOST_ROWS_OF_A_FUNCTION = 40
MOST_ROWS_OF_A_FILE = 399
MOST_SIGNS_OF_A_ROW = 120
MOST_FILES = 100


def folder_faults(folder):
    """What a package's folder has besides files with plain names (L1, L14)."""
    faults = []
    # The interpreter keeps its own copies there; they are not in the repository.
    names = [name for name in sorted(os.listdir(folder)) if name != "__pycache__"]
    for name in names:
        if not os.path.isfile(os.path.join(folder, name)) or os.path.islink(os.path.join(folder, name)):
            faults.append(f"L1 {name}: no file")
        elif not re.fullmatch("[a-z0-9_]+[.]py", name):
            faults.append(f"L1 {name}: no plain lower-case name")
        elif not name_is_free(name[:-3]):
            faults.append(f"L14 {name}: a name that is not used")
    if "__init__.py" not in names:
        faults.append("L14: no __init__.py")
    if len(names) > MOST_FILES:
        faults.append("L14: too many files")
    return faults


def name_is_free(name):
    """True if a file may have this name."""
    if name in ("__init__", "__main__"):
        return True
    if name.startswith(("__", "test_", "law_")) or name in BARRED_NAMES:
        return False
    return not hasattr(builtins, name)


def text_faults(name, data):
    """What is wrong with the bytes of a file (L1, L10, L14)."""
    try:
        text = data.decode("utf-8")
    except UnicodeDecodeError:
        return [f"L1 {name}: not UTF-8"]
    faults = []
    rows = text.split("\n")
    if text.endswith("\n"):
        rows.pop()
    if len(rows) > MOST_ROWS_OF_A_FILE:
        faults.append(f"L10 {name}: {len(rows)} rows")
    for number, row in enumerate(rows, start=1):
        if len(row) > MOST_SIGNS_OF_A_ROW:
            faults.append(f"L10 {name}:{number}: {len(row)} signs")
        if "\t" in row:
            faults.append(f"L10 {name}:{number}: a tab")
        if any(not " " <= sign <= "~" for sign in row.replace("\t", "")):
            faults.append(f"L14 {name}:{number}: a sign that is not allowed")
    return faults


def function_faults(name, tree):
    """Functions that are too long (L10)."""
    faults = []
    for node in ast.walk(tree):
        if isinstance(node, (ast.FunctionDef, ast.AsyncFunctionDef)):
            many = node.end_lineno - node.lineno + 1
            if many > MOST_ROWS_OF_A_FUNCTION:
                faults.append(f"L10 {name}:{node.lineno}: {many} rows in {node.name}")
    return faults


def import_faults(name, tree, defined):
    """Imports that do not stand at the top, or are not of the allowed forms (L2, L16)."""
    faults = []
    for node in import_nodes_behind_the_top(tree):
        faults.append(f"L2 {name}:{node.lineno}: not at the top")
    for node in ast.walk(tree):
        if isinstance(node, (ast.Import, ast.ImportFrom)) and not import_is_allowed(name, node, defined):
            faults.append(f"L2 {name}:{node.lineno}: not an allowed import")
    return faults


def import_nodes_behind_the_top(tree):
    """The imports of a file behind its docstring and its first imports."""
    body = list(tree.body)
    if ast.get_docstring(tree, clean=False) is not None:
        body.pop(0)
    top = 0
    while top < len(body) and isinstance(body[top], (ast.Import, ast.ImportFrom)):
        top += 1
    first = body[:top]
    return [
        node for node in ast.walk(tree) if isinstance(node, (ast.Import, ast.ImportFrom)) and node not in first
    ]


def import_is_allowed(name, node, defined):
    """True if an import has one of the allowed forms; `defined` has the names of each module of the package."""
    if any(alias.asname for alias in node.names):
        return False
    names = [alias.name for alias in node.names]
    if isinstance(node, ast.Import):
        return name == "__main__.py" and names == ["sys"]
    if node.level > 0 or "*" in names:
        return False
    allowed = LIBRARY.get(node.module, defined.get(node.module, ()))
    return node.module != f"{PACKAGE}.__main__" and all(word in allowed for word in names)


def names_of_modules(trees):
    """For each module of the package, the names that it defines itself."""
    defined = {}
    for name, tree in trees.items():
        names = []
        for node in tree.body:
            if isinstance(node, (ast.FunctionDef, ast.ClassDef)):
                names.append(node.name)
            elif isinstance(node, ast.Assign):
                names += [target.id for target in node.targets if isinstance(target, ast.Name)]
        defined[f"{PACKAGE}.{name[:-3]}"] = names
    return defined


def circle_faults(trees):
    """Modules that import from each other, also through others (L16)."""
    follows = {}
    for name, tree in trees.items():
        modules = [node.module for node in ast.walk(tree) if isinstance(node, ast.ImportFrom)]
        follows[f"{PACKAGE}.{name[:-3]}"] = [module for module in modules if module]
    faults = []
    for start in follows:
        reached, waiting = set(), list(follows[start])
        while waiting:
            module = waiting.pop()
            if module not in reached:
                reached.add(module)
                waiting += follows.get(module, [])
        if start in reached:
            faults.append(f"L16 {start}: imports itself")
    return faults


def package_faults(folder):
    """All faults of a package."""
    faults = folder_faults(folder)
    trees = {}
    for name in sorted(os.listdir(folder)):
        if name.endswith(".py") and os.path.isfile(os.path.join(folder, name)):
            with open(os.path.join(folder, name), "rb") as file:
                data = file.read()
            faults += text_faults(name, data)
            trees[name] = ast.parse(data)
    defined = names_of_modules(trees)
    for name, tree in trees.items():
        faults += function_faults(name, tree) + import_faults(name, tree, defined)
    return faults + circle_faults(trees)


class PackageTest(unittest.TestCase):
    def test_the_package_is_free_of_faults(self):
        self.assertEqual([], package_faults(os.path.join(ROOT, PACKAGE)))

    def test_the_package_stands_at_the_top_of_the_repository(self):
        self.assertTrue(os.path.isfile(os.path.join(ROOT, PACKAGE, "__init__.py")))

    def test_no_tests_stand_inside_the_package(self):
        names = os.listdir(os.path.join(ROOT, PACKAGE))
        self.assertEqual([], [name for name in names if "test" in name])


class PlantedFaultsTest(unittest.TestCase):
    """Each check finds what it looks for, and leaves alone what is allowed."""

    def faults(self, files):
        """The faults of a package with these files, given as texts or bytes."""
        with tempfile.TemporaryDirectory() as folder:
            for name, text in {"__init__.py": "", **files}.items():
                if text is None:
                    os.mkdir(os.path.join(folder, name))
                    continue
                with open(os.path.join(folder, name), "wb") as file:
                    file.write(text if isinstance(text, bytes) else text.encode("utf-8"))
            return package_faults(folder)

    def check_fault(self, rule, files):
        """Check that the first fault of a package is one of a rule."""
        faults = self.faults(files)
        self.assertTrue(faults, files)
        self.assertTrue(faults[0].startswith(rule), faults)

    def test_a_package_without_faults(self):
        one = '"""One."""\n\nfrom heapq import heappop\n\nEND = 3\n\n\ndef one():\n    return heappop([1])\n'
        two = "from monochord.one import END, one\n\n\nclass Two:\n    pass\n"
        self.assertEqual([], self.faults({"one.py": one, "two.py": two, "__main__.py": "import sys\n"}))

    def test_files_and_folders(self):
        self.check_fault("L1", {"notes.txt": "x"})
        self.check_fault("L1", {"inner": None})
        self.check_fault("L1", {"One.py": ""})
        self.check_fault("L1", {"o-ne.py": ""})
        self.check_fault("L14", {"test_one.py": ""})
        self.check_fault("L14", {"range.py": ""})
        self.check_fault("L14", {f"f{number}.py": "" for number in range(100)})
        self.assertEqual([], self.faults({f"f{number}.py": "" for number in range(99)}))
        with tempfile.TemporaryDirectory() as folder:
            self.assertEqual(["L14: no __init__.py"], package_faults(folder))

    def test_the_interpreters_own_copies_do_not_count(self):
        self.assertEqual([], self.faults({"__pycache__": None}))

    def test_imports_that_are_not_at_the_top(self):
        one = "def one():\n    return 1\n"
        self.check_fault("L2", {"one.py": one, "two.py": "K = 1\nfrom monochord.one import one\n"})
        self.check_fault("L2", {"one.py": one, "two.py": "def f():\n    from monochord.one import one\n    one()\n"})
        self.check_fault("L2", {"one.py": one, "two.py": "if True:\n    from monochord.one import one\n"})

    def test_imports_of_other_forms(self):
        one = "def one():\n    return 1\n"
        wrong = (
            "from .one import one", "from . import one", "from monochord.one import *", "import monochord.one",
            "import monochord.one as d", "from monochord import one", "from monochord.one import one as k",
            "import sys", "import os", "from os import path", "from math import floor", "from heapq import merge",
            "from monochord.one import two", "from monochord.three import one", "from one import one",
        )
        for row in wrong:
            with self.subTest(row):
                self.check_fault("L2", {"one.py": one, "two.py": row + "\n"})

    def test_an_import_from_a_file_that_does_not_define_the_name(self):
        files = {"one.py": "K = 1\n", "two.py": "from monochord.one import K\n", "three.py": ""}
        self.assertEqual([], self.faults(files))
        files["three.py"] = "from monochord.two import K\n"
        self.check_fault("L2", files)

    def test_files_that_import_from_each_other(self):
        one = "from monochord.two import B\n\nA = 1\n"
        self.check_fault("L16", {"one.py": one, "two.py": "from monochord.one import A\n\nB = 1\n"})

    def test_long_functions(self):
        rows = ["def one():"] + ["    pass"] * 39
        self.assertEqual([], self.faults({"one.py": "\n".join(rows) + "\n"}))
        self.check_fault("L10", {"one.py": "\n".join(rows + ["    pass"]) + "\n"})
        inside = ["class One:"] + ["    " + row for row in rows + ["    pass"]]
        self.check_fault("L10", {"one.py": "\n".join(inside) + "\n"})

    def test_long_files(self):
        self.assertEqual([], self.faults({"one.py": "# a\n" * 399}))
        self.check_fault("L10", {"one.py": "# a\n" * 400})

    def test_long_rows(self):
        self.assertEqual([], self.faults({"one.py": "#" * 120 + "\n"}))
        self.check_fault("L10", {"one.py": "#" * 121 + "\n"})

    def test_tabs(self):
        self.check_fault("L10", {"one.py": "if True:\n\tK = 1\n"})

    def test_characters(self):
        for sign in ("\r", "\x0c", "\x7f", "\u00e4", "\u20ac", "\x00"):
            with self.subTest(sign):
                faults = text_faults("one.py", f"# {sign}\n".encode("utf-8"))
                self.assertEqual(["L14 one.py:1: a sign that is not allowed"], faults)
        self.assertEqual(["L1 one.py: not UTF-8"], text_faults("one.py", b"# \xff\n"))
        every = "".join([chr(number) for number in range(32, 127)])
        self.assertEqual([], text_faults("one.py", f"# {every}\n".encode("utf-8")))
