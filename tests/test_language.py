"""The package keeps to ../shared/LANGUAGE.md, as far as a small look can see it."""

import pathlib
import unittest
import warnings

from language import PACKAGE, findings

FOLDER = pathlib.Path(__file__).resolve().parent.parent / PACKAGE


def sources():
    return {path.name: path.read_bytes().decode("utf-8") for path in FOLDER.glob("*.py")}


class Package(unittest.TestCase):
    def test_nothing_is_amiss(self):
        self.assertEqual(findings(sources()), [])

    def test_the_folder_has_nothing_but_its_files(self):
        others = [path.name for path in FOLDER.iterdir() if path.suffix != ".py" and path.name != "__pycache__"]
        self.assertEqual(others, [])
        self.assertIn("__init__.py", sources())
        self.assertLessEqual(len(sources()), 100)

    def test_python_warns_of_nothing(self):
        with warnings.catch_warnings():
            warnings.simplefilter("error")
            for name, source in sources().items():
                compile(source, name, "exec")


class Look(unittest.TestCase):
    """The look itself: each barred thing is seen, and plain code passes."""

    def rules(self, source, name="plain.py"):
        other = "class Other(ValueError):\n    pass\n"
        return {rule for file, line, rule in findings({name: source, "other.py": other}) if file != "other.py"}

    def test_plain_code_passes(self):
        source = (
            '"""Doc."""\n\nfrom webintoweb.other import Other\n\nMOST = 64\n\n\n'
            'def told(xs, k=1):\n    """Doc."""\n    seen = set(xs)\n'
            '    if any(x in seen for x in xs) and k is not None:\n        raise Other("a")\n'
            '    return tuple([x for x in range(k)]) + tuple(sorted({x for x in xs}))\n'
        )
        self.assertEqual(self.rules(source), set())

    def test_barred_things_are_seen(self):
        for rule, source in [
            ("L2", "import os\n"), ("L2", "from os import path\n"), ("L2", "from .other import Other\n"),
            ("L2", "from webintoweb.other import Other as Another\n"), ("L2", "def f():\n    import math\n"),
            ("L2", "MOST = 1\nX = 2\nfrom webintoweb.other import Other\n"),
            ("L16", "from webintoweb.other import another\n"), ("L16", "from webintoweb.plain import f\n"),
            ("L3", "print(1)\n"), ("L3", "X = len('a')\n"), ("L3", "for x in (1, 2):\n    pass\n"),
            ("L4", "def f(a, /):\n    return a\n"), ("L4", "def f(a=len('a')):\n    return a\n"),
            ("L6", "def f():\n    global x\n    x = 1\n"),
            ("L7", "X = 1.5\n"), ("L7", "def f(a):\n    return a / 2\n"), ("L7", "def f(a):\n    return (x for x in a)\n"),
            ("L8", "def f():\n    return chr(65)\n"), ("L8", "def f():\n    return map(f, [])\n"),
            ("L8", "def f():\n    print(1)\n"),
            ("L10", "X = '" + "a" * 120 + "'\n"), ("L10", "def f():\n\treturn 1\n"), ("L10", "\n" * 401),
            ("L10", "def f(x):\n" + "    x = 1\n" * 40),
            ("L12", "def f(x):\n    for _ in x:\n        pass\n"), ("L12", "def _f(x):\n    return x\n"),
            ("L13", "def f(x):\n    return x in {1, 2, 3}\n"),
            ("L14", "X = '\u00e9'\n"), ("L15", "X = 1\nX = 2\n"), ("L15", "def f(id):\n    return id\n"),
            ("L15", "from webintoweb.other import Other\n\n\ndef f(Other):\n    return Other\n"),
            ("L17", "# the type of it\n"), ("L17", "def f(x):\n    vars = x\n    return vars\n"),
            ("L19", "def f():\n    try:\n        f()\n    except:\n        pass\n"),
            ("L19", "def f():\n    try:\n        f()\n    except Exception:\n        pass\n"),
            ("L19", "def f(x):\n    raise x\n"), ("L19", "def f(x):\n    raise x.wrong()\n"),
            ("L20", "def f(x, y):\n    return x is y\n"), ("L21", "def f(x: int):\n    return x\n"),
            ("L22", "def f(x):\n    return x or len\n"), ("L22", "def f(x):\n    return int(x, base=2)\n"),
            ("L23", "def f(x):\n    return zip(x, x)\n"), ("L23", "def f(x):\n    y = x.items()\n    return y\n"),
            ("L24", "def f(x):\n    return set(x)\n"), ("L24", "def f(x):\n    for y in set(x):\n        return y\n"),
            ("L25", "def f(x):\n    return x.format(1)\n"), ("L25", "def f(x):\n    return x.append\n"),
            ("L27", "X = 'a%'\n"), ("L27", "X = '\\x41'\n"), ("L27", "def f(n):\n    return 2 ** n\n"),
            ("L28", "class A:\n    def __init__(self):\n        return None\n"),
        ]:
            self.assertIn(rule, self.rules(source), source)

    def test_classes_and_loops(self):
        source = "class A:\n    def __init__(self):\n        self.{0} = 1\n\n    def told(self):\n        return self.{1}\n"
        self.assertEqual(findings({"plain.py": source.format("row", "row")}), [])
        self.assertEqual(findings({"plain.py": source.format("row", "rows")}), [("plain.py", 6, "L18")])
        self.assertEqual(findings({"plain.py": source.format("args", "args")}), [("*", 1, "L26")])
        for row, amiss in [("ys.append(x)", False), ("xs.append(x)", True), ("xs[0] = x", True), ("del xs[0]", True)]:
            source = f"def f(xs, ys):\n    for x in xs:\n        {row}\n"
            self.assertEqual("L23" in self.rules(source), amiss, row)

    def test_names_of_files(self):
        for name in ("Plain.py", "test_a.py", "tests.py", "len.py", "range.py", "a-b.py", "site.py"):
            self.assertIn("L14", self.rules("X = 1\n", name), name)

    def test_files_that_import_each_other(self):
        files = {
            "one.py": "from webintoweb.two import Y\n\nX = 1\n",
            "two.py": "from webintoweb.three import Z\n\nY = 1\n",
            "three.py": "from webintoweb.one import X\n\nZ = 1\n",
        }
        self.assertEqual({rule for file, line, rule in findings(files)}, {"L16"})

    def test_a_method_with_the_name_of_an_attribute(self):
        source = "class A:\n    def __init__(self):\n        self.row = 1\n\n\nclass B:\n    def row(self):\n        return 1\n"
        self.assertIn(("*", 1, "L18"), findings({"plain.py": source}))


if __name__ == "__main__":
    unittest.main()
