"""The package's files: their names, what they import, and the language that they are written in."""

import ast
import pathlib
import unittest

from language import Finder

PACKAGE = pathlib.Path(__file__).resolve().parent.parent / "cutsanywhere"
FILES = sorted(PACKAGE.glob("*.py"))


def methods_of_the_package():
    names = set()
    for path in FILES:
        for node in ast.walk(ast.parse(path.read_text())):
            if isinstance(node, ast.ClassDef):
                names |= {part.name for part in node.body if isinstance(part, ast.FunctionDef)}
    return names


def imports_of(path):
    for node in ast.parse(path.read_text()).body:
        if isinstance(node, ast.ImportFrom) and node.module.startswith("cutsanywhere."):
            for name in node.names:
                yield node.module.split(".")[1], name.name


def names_in(path):
    names = set()
    for node in ast.parse(path.read_text()).body:
        if isinstance(node, (ast.FunctionDef, ast.ClassDef)):
            names.add(node.name)
        elif isinstance(node, ast.Assign):
            names.add(node.targets[0].id)
    return names


class LanguageTest(unittest.TestCase):
    def test_the_folder_holds_plain_files_alone(self):
        for path in PACKAGE.iterdir():
            if path.name != "__pycache__":
                self.assertRegex(path.name, r"^[a-z_][a-z0-9_]*\.py$")

    def test_every_file_keeps_to_the_language(self):
        methods = methods_of_the_package()
        for path in FILES:
            self.assertEqual(Finder(path.read_text(), "cutsanywhere", methods).found, [], path.name)

    def test_imports_name_the_file_that_defines(self):
        for path in FILES:
            for module, name in imports_of(path):
                self.assertIn(name, names_in(PACKAGE / f"{module}.py"), path.name)

    def test_no_import_is_left_over(self):
        for path in FILES:
            text = path.read_text()
            used = {node.id for node in ast.walk(ast.parse(text)) if isinstance(node, ast.Name)}
            for _, name in imports_of(path):
                self.assertIn(name, used, path.name)

    def test_no_two_files_import_from_each_other(self):
        ahead = {path.stem: {module for module, _ in imports_of(path)} for path in FILES}
        while ahead:
            free = [name for name in ahead if not ahead[name] & set(ahead)]
            self.assertTrue(free, ahead)
            ahead = {name: ahead[name] for name in ahead if name not in free}


class FinderTest(unittest.TestCase):
    """The finder itself: each of these texts breaks one rule."""

    def test_what_it_finds(self):
        texts = (
            "import os\n", "from os import path\n", "a = b = 1\n", "a = len('b')\n", "a = 1\na = 2\n", "x = '\u00e9'\n",
            "def f():\n    return 1.5\n", "def f(a):\n    return a / 2\n", "def f(a):\n    return chr(a)\n",
            "def f(a):\n    return a.encode()\n", "def f(len):\n    return len\n", "def f():\n    return 'a%'\n",
            'a = "\\x41"\n', 'a = """\\\nb"""\n', 'a = "\\r"\n',
            "@f\ndef g():\n    return 1\n", "def f(x):\n    raise x\n", "def f(a, b):\n    return a is b\n",
            "def f(xs):\n    for x in xs:\n        xs.append(x)\n", "def f(x):\n    global y\n    y = x\n",
            "def f():\n" + "    a = 1\n" * 40, "a = 1\n" * 0 + "# " + "x" * 120 + "\n", "class A:\n    pass\nA.b = 1\n",
            "class A:\n    def __getitem__(self, at):\n        return at\n", "def f(x):\n    return (y := x)\n",
            "def f(x):\n    return list(zip(*x.y.z))\n", "def f(map):\n    return map\n", "def f(x):\n    hash = x\n    return hash\n",
            "class A:\n    def __exit__(self, kind, value, trace):\n        self.n = self.n + 1\n",
            "class A:\n    def __exit__(self, kind, value, trace):\n        self.shut(value)\n",
        )
        for text in texts:
            self.assertTrue(Finder(text, "cutsanywhere", set()).found, text)


if __name__ == "__main__":
    unittest.main()
