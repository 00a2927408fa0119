"""The package's own files keep to the small part of the language."""

import ast
import pathlib
import re
import unittest

from tests.form import PACKAGE, clashes, faults, methods_of

FOLDER = pathlib.Path(__file__).resolve().parent.parent / PACKAGE

WRONG = [
    "import re", "import lightmark.signs", "from re import match", "from .signs import tidy",
    "from lightmark.signs import *", "from lightmark.signs import tidy as neat", "print(1)", "X = Y = 1", "X = 1\nX = 2",
    "X = 1.5", "X = b'a'", "X = '%'", "X = '\\x41'", "X: int = 1", "for x in []:\n    pass",
    "def f(*a):\n    return a", "def f(**a):\n    return a", "def f(a, *, b):\n    return a", "def f(a: int):\n    return a",
    "def f() -> int:\n    return 1", "@f\ndef g():\n    return 1", "class C(A, B):\n    pass", "class C:\n    x = 1",
    "def f():\n    a, b = 1, 2", "def f():\n    a = b = 1", "def f(a):\n    del a", "def f(a):\n    assert a",
    "def f(a):\n    yield a", "def f(a):\n    with a:\n        pass", "def f(a):\n    a", "def f(a):\n    return a / 2",
    "def f(a):\n    return [b for c in a for b in c]", "def f(a):\n    return (b for b in a)",
    "def f(a):\n    return {b: b for b in a}", "def f(a):\n    return {b for b in a}", "def f(a):\n    return (b := a)",
    "def f(a):\n    return [*a]", "def f(a):\n    return f'{a + 1}'", "def f(a):\n    return f'{a:3}'",
    "def f(a):\n    return a is 'b'", "def f(a):\n    return chr(a)", "def f(a):\n    return hash(a)",
    "def f(a):\n    return getattr(a, 'b')", "def f(id):\n    return id", "def f(a):\n    len = a\n    return len",
    "def f(_a):\n    return 1", "def _f():\n    return 1", "def f(a):\n    return a._b", "def f(a):\n    return a.title()",
    "def f(a):\n    return a.format(1)", "def f(a):\n    a.sort()", "def f(a):\n    for b in a:\n        pass\n    else:\n        pass",
    "from lightmark.signs import tidy\ndef f(tidy):\n    return tidy", "class C:\n    pass\ndef f(C):\n    return C",
    "def f(a):\n    return range(a)", "def f(a):\n    b = zip(a, a)\n    return b", "def f(a):\n    return a.lower",
    "class C:\n    def f(self):\n        self.items = 1", "class C:\n    def f(self):\n        pass\n    def f(self):\n        pass",
    "X = 1  # a type", "X = 'an enum'", "X = 'overloaded'", "X = 1  # " + "a" * 120, "X = 1\t", "X = 1  # \u00e4",
    "def f():\n" + "    pass\n" * 40, "X = 1" + "\n" * 400,
]


class Form(unittest.TestCase):
    def sources(self):
        return {path.name: path.read_text(encoding="utf-8") for path in sorted(FOLDER.glob("*.py"))}

    def test_the_folder_holds_files_with_plain_names_alone(self):
        for path in FOLDER.iterdir():
            if path.name != "__pycache__":
                with self.subTest(path=path.name):
                    self.assertTrue(path.is_file())
                    self.assertTrue(path.name == "__init__.py" or re.fullmatch(r"[a-z][a-z0-9_]*\.py", path.name))

    def test_every_file_keeps_to_the_rules(self):
        sources = self.sources()
        self.assertIn("__init__.py", sources)
        methods = [name for source in sources.values() for name in methods_of(ast.parse(source))]
        for name, source in sources.items():
            with self.subTest(file=name):
                self.assertEqual(faults(source, methods), [])

    def test_no_name_is_a_method_here_and_a_value_there(self):
        self.assertEqual(clashes(self.sources().values()), [])
        method, value = "class A:\n    def b(self):\n        pass", "class C:\n    def d(self):\n        self.b = 1"
        self.assertEqual(clashes([method, value]), ["b"])

    def test_no_two_files_draw_from_one_another(self):
        drawn = {}
        for name, source in self.sources().items():
            rows = [node for node in ast.parse(source).body if isinstance(node, ast.ImportFrom)]
            drawn[name] = {node.module.partition(".")[2] + ".py" for node in rows}
        while drawn:
            free = [name for name in drawn if not drawn[name] & set(drawn)]
            self.assertTrue(free, f"these draw from one another: {sorted(drawn)}")
            for name in free:
                del drawn[name]

    def test_code_outside_the_rules_is_found(self):
        for source in WRONG:
            with self.subTest(source=source[:80]):
                self.assertNotEqual(faults('"""Why."""\n' + source), [])

    def test_code_within_the_rules_is_let_be(self):
        for source in [
            "from lightmark.signs import tidy\nX = ('a', 1)\ndef f(a, b=1):\n    return [tidy(c) for c in a if c != '']",
            "class A(ValueError):\n    pass\ndef f(a):\n    if a is None:\n        raise A('no')\n    return f'{a}'",
            "def f(a):\n    try:\n        return int(a)\n    except ValueError as e:\n        return e is None",
        ]:
            with self.subTest(source=source):
                self.assertEqual(faults('"""Why."""\n' + source), [])
