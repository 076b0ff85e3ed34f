import os
import unittest

from language import faults_in

FOLDER = os.path.join(os.path.dirname(os.path.dirname(os.path.abspath(__file__))), "roundcuts")

# All forms that the check lets through, as one file.
GOOD = '''"""A docstring."""

from roundcuts.other import Bad, Box, far

LIMIT = -30
NAMES = ("a", ("b", 2), None, True)


def near(xs, many=3, pair=(1, -2)):
    """A docstring."""
    # A comment.
    low = high = 0
    first, (second, third) = 1, (2, 3)
    for at, x in enumerate(xs, start=1):
        if x is None or not isinstance(x, (int, str)) and at < LIMIT:
            continue
        low += x ** 2
    while low > high:
        low, high = low // 2, high + 1
        break
    try:
        far(low, other=high)
    except (Bad, KeyError):
        raise
    assert low >= 0, "why"
    return [first if x else second for x in sorted(xs, key=lambda x: -x, reverse=True) if x in {"a", third}]


ACTIONS = {"near": near, "nothing": None}


def act(word, index):
    action = ACTIONS[word]
    box = Box(index)
    box.many += 1
    rows = {}
    rows[word] = [len(set(index)), max([box.many], default=0)]
    for key in list(rows):
        del rows[key]
    for name, row in zip(NAMES, [1, 2]):
        rows.setdefault(name, row)
    if box.is_full(1) and {x for x in index} == set(index):
        raise Bad(f"no {word} of {index!r}")
    return action(index[::-1]), "\\n".join([str(x) for x in reversed(range(3))]), rows.get(word, 0)
'''

OTHER = '''class Bad(ValueError):
    """Something bad."""


class Box:
    def __init__(self, index):
        self.many = len(index)

    def is_full(self, limit):
        return self.many > limit


def far(one, other=1):
    return one + other
'''

# For each rule, texts of a file that break it.
BAD = {
    "L2": ["from .other import far\n", "from roundcuts.other import *\n", "from math import gcd\n",
           "def f():\n    return 1\n\n\nfrom roundcuts.other import far\n",
           "def f():\n    from roundcuts.other import far\n    return far(1)\n",
           "from __future__ import annotations\n"],
    "L3": ["f = len([1])\n", "if True:\n    A = 1\n", "A = B = 1\n", "A, B = 1, 2\n", "A = [x for x in (1, 2)]\n",
           "A = 1 // 0\n", "for X in (1, 2):\n    pass\n", "A = {[1]: 2}\n", "A = B\n",
           "A = {}\n\n\ndef f(k):\n    return A[k](1)\n", "A = 1\nA += 1\n"],
    "L4": ["def f(*xs):\n    return xs\n", "def f(**xs):\n    return xs\n", "def f(x, /):\n    return x\n",
           "def f(x=[]):\n    return x\n", "def f(x=len(\"a\")):\n    return x\n",
           "def g(x):\n    return x\n\n\n@g\ndef f(x):\n    return x\n",
           "def f(x):\n    def g():\n        return x\n    return g()\n", "def f(x):\n    return f(**x)\n",
           "def f(xs):\n    return sorted(xs, key=lambda x, y=1: x)\n"],
    "L5": ["class A:\n    many = 1\n", "class A:\n    def __add__(self, other):\n        return 1\n",
           "class A(int):\n    pass\n", "class A(ValueError, KeyError):\n    pass\n",
           "class A(metaclass=B):\n    pass\n", "class A:\n    def __eq__(self, other):\n        return True\n"],
    "L6": ["def f(x):\n    with x:\n        pass\n", "def f(x):\n    global y\n", "def f(x):\n    yield x\n",
           "def f(x):\n    for y in x:\n        pass\n    else:\n        pass\n", "async def f(x):\n    pass\n",
           "def f(x):\n    match x:\n        case 1:\n            pass\n", "def f(x):\n    [a, b] = x\n",
           "def f(x):\n    try:\n        pass\n    finally:\n        pass\n", "def f(x):\n    x[1:2] += [1]\n",
           "def f(x):\n    try:\n        pass\n    except:\n        pass\n", "def f(x):\n    del x\n"],
    "L7": ["A = 1.5\n", "A = 1j\n", "A = ...\n", "A = b\"x\"\n", "def f(x):\n    return x / 2\n",
           "def f(x):\n    x /= 2\n", "def f(x):\n    return any(y for y in x)\n",
           "def f(x):\n    return (y := x)\n", "def f(x):\n    return [*x]\n", "def f(x):\n    a, *b = x\n",
           "def f(x):\n    return [1, 2][x]\n", "def f(x):\n    return f\"{x:3}\"\n",
           "def f(x):\n    return x @ x\n"],
    "L8": ["def f(x):\n    return print(x)\n", "def f(x):\n    return pow(x, 2)\n", "len = 1\n",
           "def f(x):\n    return map(f, x)\n", "def f(x):\n    return missing\n", "__secret = 1\n",
           "def f(x):\n    return \"{}\".format(x)\n", "def f(x):\n    return frozenset(x)\n",
           "def f(x):\n    return x.__class__\n", "def f(x):\n    return hash(x)\n"],
    "L9": ["import sys\n", "import random\n", "import time\n", "def f(x):\n    return open(x)\n"],
    "L10": ["A = 1\n" * 401, "A = \"" + "a" * 120 + "\"\n", "def f():\n\treturn 1\n",
            "def f(x):\n" + "    x += 1\n" * 40],
    "L11": ["def f(x):\n    return f(x - 1) if x else 0\n",
            "def f(x):\n    return g(x)\n\n\ndef g(x):\n    return f(x)\n"],
    "L12": ["def _f(x):\n    return x\n", "def f(_):\n    return 1\n", "def f(x):\n    for _ in x:\n        pass\n"],
    "L13": ["def f(x):\n    return x in {1, 2, 3}\n",
            "def f(x):\n    return sorted(x, key=lambda y: y), sorted(x, key=lambda y: -y)\n"],
    "L14": ["A = \"\u00e4\"\n", "# \u2014\nA = 1\n"],
    "L15": ["A = 1\nA = 2\n", "A = [[1]]\n", "A = {1: {}}\n", "def f(x):\n    class B:\n        pass\n    return 1\n",
            "def f(min):\n    return min\n", "def f(x):\n    round = x\n    return round\n",
            "from roundcuts.other import far\n\n\ndef f(far):\n    return far\n",
            "A = [1]\n\n\ndef f(x):\n    A.append(x)\n", "A = {}\n\n\ndef f(x):\n    A[x] = 1\n",
            "A = [1]\n\n\ndef f(x):\n    return A\n", "class B:\n    pass\n\n\ndef f(B):\n    return B\n",
            "def f(x):\n    return x\n\n\ndef f(x):\n    return x\n"],
    "L16": ["import roundcuts.other\n", "from roundcuts import other\n", "from roundcuts.other import missing\n",
            "from roundcuts.one import f\n\n\ndef f(x):\n    return x\n"],
    "L17": ["# its type\nA = 1\n", "A = \"enum\"\n", "def f(register):\n    return register\n",
            "def f(x):\n    return x.f_back\n", "def f(id):\n    return id\n", "# a dataclasses\nA = 1\n",
            "def f(x):\n    return getattr(x, \"y\")\n", "def f(x):\n    return eval(x)\n"],
    "L18": ["from roundcuts.other import Box\n\n\ndef f(x):\n    return Box\n", "def f(x):\n    return x.missing\n",
            "from roundcuts.other import Box\n\n\ndef f(x):\n    Box.many = 1\n",
            "class A:\n    def f(self):\n        return 1\n\n    def f(self):\n        return 2\n",
            "class A:\n    def f(self):\n        self.f = 1\n", "class A(StopIteration):\n    pass\n"],
    "L19": ["def f(x):\n    try:\n        return x[1]\n    except ValueError:\n        return 0\n",
            "def f(x):\n    try:\n        return x[1]\n    except Exception:\n        return 0\n",
            "def f(x):\n    try:\n        return x[1]\n    except (KeyError, TypeError):\n        return 0\n",
            "def f(x):\n    try:\n        return x[1]\n    except KeyError as e:\n        return e\n",
            "def f(x):\n    raise x\n", "def f(x):\n    raise\n", "def f(x):\n    raise KeyError\n",
            "def f(x):\n    raise KeyError(\"a\") from x\n", "def f(x):\n    raise f(x)\n"],
    "L20": ["def f(x):\n    return x is f\n", "def f(x):\n    return x is not 1\n"],
    "L21": ["A: int = 1\n", "def f(x: int):\n    return x\n", "def f(x) -> int:\n    return x\n"],
    "L22": ["def f(x):\n    return isinstance(x, float)\n", "def f(x):\n    g = len\n    return g(x)\n",
            "def f(x):\n    return sum(x, begin=1)\n", "def f(x):\n    return len(x, x)\n",
            "def f(x):\n    return sorted(x, reverse=x)\n", "def g():\n    return 1\n\n\ndef f(x):\n    return g(x)\n",
            "from roundcuts.other import far\n\n\ndef f(x):\n    return far(other=x)\n",
            "from roundcuts.other import Box\n\n\ndef f(x):\n    return Box()\n",
            "from roundcuts.other import Bad\n\n\ndef f(x):\n    raise Bad(why=x)\n",
            "from roundcuts.other import Bad\n\n\ndef f(x):\n    raise Bad(1)\n",
            "def f(box):\n    return box.is_full(1, 2)\n", "def f(x):\n    return max(x, x, default=1)\n",
            "def f(x):\n    return sorted(x, key=repr)\n"],
    "L23": ["def f(x):\n    y = range(x)\n    return y\n", "def f(x):\n    return x.items()\n",
            "def f(x):\n    for y in x:\n        x.append(y)\n", "def f(x):\n    for y in x.items():\n        x[y] = 1\n",
            "def f(x):\n    for k, y in enumerate(x):\n        del x[k]\n", "def f(x):\n    return len(zip(x, x))\n",
            "def f(x):\n    for x[0] in (1, 2):\n        pass\n", "def f(x):\n    return [x.pop() for y in x]\n",
            "def f(x):\n    return list(range(x)) == range(x)\n", "def f(x):\n    for y in x:\n        x += [y]\n"],
    "L24": ["def f(x):\n    y = set(x)\n    return 1\n", "def f(x):\n    return {1, x}\n",
            "def f(x):\n    for y in set(x):\n        pass\n", "def f(x):\n    return [{y for y in x}]\n",
            "def f(x):\n    return list(set(x))\n", "def f(x):\n    return {[x]: 1}\n"],
    "L25": ["def f(x):\n    return x.bit_count()\n", "def f(x):\n    x.sort()\n", "def f(x):\n    return x.union(x)\n",
            "def f(x):\n    return x.split(sep=\"a\")\n", "def f(x):\n    return x.encode()\n",
            "def f(x):\n    return x.append()\n"],
    "L26": ["class A:\n    def decode(self):\n        return 1\n",
            "class A:\n    def __init__(self):\n        self.items = 1\n",
            "class A:\n    def __init__(self):\n        self.args = 1\n"],
    "L27": ["def f(n):\n    return 2 ** n\n", "A = \"100%\"\n", "def f(x):\n    return chr(x)\n", "A = \"\\x41\"\n",
            "def f(x):\n    return 1if x else 2\n", "def f(x):\n    return f\"{x['a']}\"\n", "A = \"\\d\"\n",
            "def f(x):\n    return f\"{x}%\"\n", "def f(x):\n    return f\"\"\"{x}\n\"\"\"\n",
            "def f(x):\n    return f\"{x}\\x41\"\n"],
    "L28": ["class A:\n    def __init__(self):\n        return None\n", "def __len__(x):\n    return 1\n"],
}


def rules_broken(texts):
    return {rule for rule, file, line, words in faults_in("roundcuts", texts)}


class ThePackage(unittest.TestCase):
    def test_it_keeps_to_the_language(self):
        texts = {}
        for name in sorted(os.listdir(FOLDER)):
            # What Python leaves behind when the tests run is not one of the package's files.
            if name != "__pycache__":
                with open(os.path.join(FOLDER, name), encoding="utf-8", newline="") as source:
                    texts[name] = source.read()
        self.assertIn("rows.py", texts)
        self.assertEqual(faults_in("roundcuts", texts), [])


class TheCheck(unittest.TestCase):
    def test_what_is_good_has_no_fault(self):
        self.assertEqual(faults_in("roundcuts", {"__init__.py": "", "one.py": GOOD, "other.py": OTHER}), [])

    def test_each_rule_is_looked_at(self):
        self.assertEqual(sorted(BAD, key=lambda rule: int(rule[1:])), ["L" + str(k) for k in range(2, 29)])

    def test_what_is_bad_has_a_fault(self):
        for rule, texts in BAD.items():
            for text in texts:
                with self.subTest(rule=rule, text=text[:200]):
                    broken = rules_broken({"__init__.py": "", "one.py": text, "other.py": OTHER})
                    # L9 is kept by barring the names with which it could be broken.
                    self.assertTrue(rule in broken or rule == "L9" and broken, broken)

    def test_files(self):
        for rule, name in (("L1", "note.txt"), ("L1", "a-b.py"), ("L14", "One.py"), ("L14", "test_one.py"),
                           ("L14", "len.py"), ("L14", "enum.py"), ("L14", "law_one.py"), ("L12", "__main__.py"),
                           ("L1", "inner/one.py"), ("L14", "conftest.py")):
            self.assertIn(rule, rules_broken({"__init__.py": "", name: ""}), name)
        self.assertIn("L14", rules_broken({"one.py": ""}))
        self.assertIn("L14", rules_broken(dict({"a" + str(k) + ".py": "" for k in range(100)}, **{"__init__.py": ""})))
        self.assertEqual({rule for rule, *more in faults_in("json", {"__init__.py": ""})}, {"L14"})

    def test_files_that_import_each_other(self):
        one = "from roundcuts.two import g\n\n\ndef f(x):\n    return g(x)\n"
        two = "from roundcuts.three import h\n\n\ndef g(x):\n    return h(x)\n"
        three = "from roundcuts.one import f\n\n\ndef h(x):\n    return 1\n\n\ndef k(x):\n    return f(x)\n"
        self.assertEqual(rules_broken({"__init__.py": "", "one.py": one, "two.py": two, "three.py": three}), {"L16"})
        around = "from roundcuts.one import f\n\n\ndef h(x):\n    return f(x)\n"
        plain = "def g(x):\n    return x\n"
        self.assertEqual(rules_broken({"__init__.py": around, "one.py": one, "two.py": plain}), {"L16"})
        self.assertEqual(rules_broken({"__init__.py": "", "one.py": one, "two.py": plain}), set())
        self.assertIn("L16", rules_broken({"__init__.py": "one = 1\n", "one.py": ""}))


if __name__ == "__main__":
    unittest.main()
