"""The rules of the language: the package keeps them, and the check sees what breaks them."""

import pathlib
import sys
import tempfile
import unittest

ROOT = pathlib.Path(__file__).resolve().parent.parent
sys.path.insert(0, str(ROOT / "checks"))

from language import faults_of  # noqa: E402

INIT = {"__init__.py": '"""A package."""\n'}


def rules_broken(files):
    """The rules that a package with these files breaks."""
    with tempfile.TemporaryDirectory() as place:
        folder = pathlib.Path(place) / "pack"
        folder.mkdir()
        for name, text in {**INIT, **files}.items():
            (folder / name).parent.mkdir(exist_ok=True)
            (folder / name).write_text(text, encoding="utf-8")
        return sorted({rule for _, _, rule, _ in faults_of(folder)})


class LanguageTest(unittest.TestCase):
    def test_the_package_keeps_the_rules(self):
        self.assertEqual(faults_of(ROOT / "headsheard"), [])

    def assert_breaks(self, rule, *texts):
        for text in texts:
            with self.subTest(rule, text=text):
                self.assertIn(rule, rules_broken({"one.py": text + "\n"}))

    def assert_keeps(self, *texts):
        for text in texts:
            with self.subTest(text):
                self.assertEqual(rules_broken({"one.py": text + "\n"}), [])

    def test_sizes(self):
        rows = "\n".join(["    x = 1"] * 39)
        self.assert_keeps("def f():\n" + rows)
        self.assert_breaks("L10", "def f():\n    y = 1\n" + rows)
        self.assert_breaks("L10", "class C:\n    def f(self):\n        y = 1\n" + rows.replace("    x", "        x"))
        self.assert_keeps("\n".join(f"X{at} = 1" for at in range(399)))
        self.assert_breaks("L10", "\n".join(f"X{at} = 1" for at in range(400)))
        self.assert_keeps("# " + "x" * 118)
        self.assert_breaks("L10", "# " + "x" * 119)

    def test_characters(self):
        self.assert_breaks("L14", "# \u00e9", "X = 1\t", "\x0c")
        self.assert_breaks("L27", 'X = "a%"', 'X = "\\x41\\x00"', 'X = "a._"', 'X = "__a__"')
        self.assert_keeps('X = "\\n\\t\\\\"')

    def test_imports(self):
        self.assert_breaks("L2", "from os import path", "from .one import x", "from math import sqrt",
                           "from math import gcd as g", "from math import *", "from pack.two import x",
                           "X = 1\nfrom math import gcd")
        self.assert_breaks("L16", "import math", "import pack.one")
        self.assert_keeps("from math import gcd, lcm", "from heapq import heappush")
        self.assertEqual(rules_broken({"one.py": "from pack.two import x\n", "two.py": "def x():\n    pass\n"}), [])
        self.assertEqual(rules_broken({"one.py": "from pack.two import y\n", "two.py": "def x():\n    pass\n"}), ["L16"])
        self.assertEqual(rules_broken({"one.py": "from pack.two import X\nY = 1\n",
                                       "two.py": "from pack.one import Y\nX = 1\n"}), ["L16"])

    def test_names(self):
        self.assert_breaks("L15", "def f(list):\n    pass", "def f():\n    sum = 1", "def hash():\n    pass",
                           "X = 1\nX = 2", "from math import gcd\ndef f(gcd):\n    pass",
                           "class C:\n    pass\ndef f():\n    C = 1")
        self.assert_breaks("L17", "def f(os):\n    pass", "def f(x):\n    x.law = 1", "def elements():\n    pass",
                           'X = "an enum"', "def f(typing):\n    pass", 'X = "dataclasses"')
        self.assert_breaks("L12", "def f(_pe_x):\n    pass", "class _C:\n    pass", "def f():\n    return [_ for _ in ()]",
                           "# _WallAttr", "def f(x_, _1):\n    pass", "_outside = 1",
                           "class C:\n    def _lay_it(self):\n        pass", "def f(x):\n    x._law_x = 1",
                           "def _stub_x():\n    pass", "def f(x):\n    x._cold_1 = 1")
        self.assert_breaks("L17", "class C:\n    def vars(self):\n        pass", "class C:\n    def eval(self):\n        pass")
        self.assert_breaks("L8", "def f(__x):\n    pass", "class C:\n    def __hash__(self):\n        return 1")
        self.assert_keeps('"""enum"""\n# namedtuple', 'X = "a type"', "class C:\n    def hash(self):\n        pass",
                          "def f():\n    for _ in range(3):\n        pass")

    def test_files(self):
        for name in ("test.py", "len.py", "enum.py", "test_one.py", "law_one.py", "math.py", "elements.py"):
            self.assertEqual(rules_broken({name: ""}), ["L14"])
        for name in ("One.py", "one.txt", "one-two.py"):
            self.assertEqual(rules_broken({name: ""}), ["L1"])
        self.assertEqual(rules_broken({"inner/one.py": ""}), ["L1"])

    def test_statements_and_values(self):
        self.assert_breaks("L3", "print", "for x in (1, 2):\n    pass", "X, Y = 1, 2", "X = [[1]]", "X = len('a')",
                           "X = [x for x in ()]", "X += 1", "X: int = 1")
        self.assert_breaks("L6", "def f():\n    global X", "async def f():\n    pass", "def f(:")
        self.assert_breaks("L7", "def f(x):\n    return x / 2", "X = 1.5", "def f(x):\n    x /= 2", 'X = b"a"',
                           "def f(x):\n    return any(y for y in x)")
        self.assert_breaks("L8", "def f(x):\n    return type(x)", "def f(x):\n    return hash(x)", "def f(x):\n    print(x)")
        self.assert_breaks("L4", "from math import gcd\n@gcd\ndef f():\n    pass")
        self.assert_breaks("L5", "from math import gcd\n@gcd\nclass C:\n    pass")
        self.assert_breaks("L13", "def f(x):\n    return x == {1, 2, 3}", "def f(x):\n    return [lambda y: 1, lambda y: 2]")
        self.assert_breaks("L18", "class C:\n    def f(self):\n        pass\n\n    def f(self):\n        pass")
        self.assert_breaks("L20", "def f(x, y):\n    return x is y")
        self.assert_breaks("L22", "def f(x):\n    return int(x, base=2)")
        self.assert_breaks("L25", "def f(x):\n    return x.encode()")
        self.assert_breaks("L27", "def f(x):\n    return 2 ** x", "X = 10 ** 65")

    def test_attributes_and_methods(self):
        self.assert_breaks("L18", "class C:\n    def __init__(self):\n        self.f = 1\n\n    def f(self):\n        pass")
        self.assert_keeps("class C:\n    def __init__(self):\n        self.f = 1\n\n    def g(self):\n        pass")

    def test_generators(self):
        self.assert_keeps("def f(x):\n    for y in x:\n        yield y", "def f(x):\n    yield from x\n    return")
        self.assert_breaks("L23", "def f(x):\n    y = yield x", "def f(x):\n    yield x\n    return 1",
                           "def f(x):\n    try:\n        yield x\n    except KeyError:\n        pass",
                           "def split(x):\n    yield x", "class C:\n    @classmethod\n    def f(cls):\n        yield 1",
                           "def f(x):\n    yield x\nclass C:\n    def f(self):\n        pass")

    def test_what_is_iterated_at_once(self):
        self.assert_keeps("def f(x):\n    return [y for y in range(x)]", "def f(x):\n    y = range(x)\n    return len(y)",
                          "def f(x):\n    return tuple(zip(x, range(3)))", "def f(x):\n    return max(range(x))",
                          "def f(x):\n    return list(reversed(range(x)))", "def f(x):\n    return len(x.items())",
                          "def f(x):\n    for y, z in enumerate(x.values()):\n        pass")
        self.assert_breaks("L23", "def f(x):\n    return range(x)", "def f(x):\n    return f(range(x))",
                           "class C:\n    def __init__(self, x):\n        self.x = range(x)", "def f(x):\n    return [zip(x, x)]",
                           "def f(x):\n    return x.keys()", "def f(x):\n    return len(zip(x))",
                           "def f(x):\n    return sorted(x, key=range(3))")

    def test_what_is_iterated_over_is_not_changed(self):
        self.assert_keeps("def f(x):\n    for y in list(x):\n        x.append(y)",
                          "def f(x, z):\n    for y in x:\n        z.append(y)")
        self.assert_breaks("L23", "def f(x):\n    for y in x:\n        x.append(y)",
                           "def f(x):\n    for y in x:\n        x[y] = 1", "def f(x):\n    for y in x.items():\n        del x[y]",
                           "def f(x):\n    for y, z in enumerate(x.rows):\n        x.rows.pop()",
                           "def f(x):\n    return [x.pop() for y in x]")

    def test_classes_and_calls(self):
        own = "class C:\n    def __init__(self, x, y=1):\n        self.x = x\n\n\n"
        self.assert_keeps(own + "def f(x):\n    return C(x).x, isinstance(x, C), isinstance(x, (C, int))",
                          own + "class D(C):\n    pass", own + "def f():\n    return C(1, y=2), C(x=1)")
        self.assert_breaks("L18", own + "def f():\n    return C", own + "def f(x):\n    return f(C)",
                           own + "def f(x):\n    return x.z", own + "def f(x):\n    return isinstance(C, x)",
                           own + "class D:\n    def x(self):\n        pass")
        self.assert_breaks("L22", own + "def f():\n    return C()", own + "def f():\n    return C(1, 2, 3)",
                           own + "def f():\n    return C(1, z=2)", "def f(x):\n    return f(x, x)", "def f(x):\n    return f()")

    def test_sets(self):
        self.assert_keeps("def f(x):\n    return sorted(set(x))", "def f(x):\n    y = set(x)\n    return len(y)",
                          "def f(x):\n    y = {z for z in x}\n    return x in y")
        self.assert_breaks("L24", "def f(x):\n    return [y for y in set(x)]", "def f(x):\n    return set(x)",
                           "def f(x):\n    y = {z for z in x}\n    for z in y:\n        pass",
                           "def f(x):\n    y = set(x)\n    return y", "def f(x):\n    y = set(x)\n    y.pop()",
                           "def f(x):\n    y = set()\n    y.add(x)\nclass C:\n    def add(self):\n        pass")

    def test_errors(self):
        own = "class Bad(ValueError):\n    pass\n\n\n"
        self.assert_breaks("L19", own + "def f():\n    try:\n        pass\n    except ValueError:\n        pass",
                           own + "def f():\n    try:\n        pass\n    except:\n        pass",
                           own + "def f(x):\n    raise x", own + "def f(x):\n    raise Bad")
        self.assert_keeps(own + "def f():\n    try:\n        pass\n    except (Bad, KeyError):\n        raise",
                          own + "def f():\n    raise Bad() from None")


if __name__ == "__main__":
    unittest.main()
