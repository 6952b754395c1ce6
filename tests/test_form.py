"""The form of the package: rules of ../shared/LANGUAGE.md that a program can see."""

import unittest
from pathlib import Path

from form import FILE_NAMES, Package

ROOT = Path(__file__).resolve().parent.parent / "risewords"


def package_texts():
    """A dict from the names of all modules to their texts."""
    texts = {}
    for path in sorted(ROOT.rglob("*.py")):
        parts = path.relative_to(ROOT.parent).with_suffix("").parts
        texts[".".join(parts[:-1] if parts[-1] == "__init__" else parts)] = path.read_text(encoding="utf-8")
    return texts


def faults_of(text):
    """What is found in a package of one file."""
    return Package({"risewords": '"""A package."""\n', "risewords.one": text}).faults()


class Form(unittest.TestCase):
    def test_the_package_keeps_the_rules(self):
        self.assertEqual(Package(package_texts()).faults(), [])

    def test_files_and_folders(self):
        for path in ROOT.rglob("*"):
            if path.name == "__pycache__" or path.suffix == ".pyc":
                continue
            if path.is_dir():
                self.assertTrue((path / "__init__.py").is_file(), path)
                self.assertFalse(path.with_suffix(".py").exists(), path)
            elif path.name != "__init__.py":
                self.assertRegex(path.name, FILE_NAMES)

    def test_the_search_finds_faults(self):
        for text in ("import os\n", "A = B = 1\n", "A = len('a')\n", "def f(len):\n    '''F.'''\n    return len\n",
                     "def f():\n    '''F.'''\n    return 1 / 2\n", "def f():\n    '''F.'''\n    return {1, 2}\n",
                     "def f():\n    '''F.'''\n    return 2 ** f()\n",
                     "def f(a):\n    '''F.'''\n    return 2 ** (a % 65)\n",
                     "def f(a):\n    '''F.'''\n    return 2 ** (int(a) % 66)\n",
                     "from itertools import accumulate\n\n\ndef f(a):\n    '''F.'''\n    return accumulate(a)\n",
                     "from itertools import product\n\n\ndef f(a):\n    '''F.'''\n    return list(product(a))\n",
                     "def f():\n    '''F.'''\n    yield 1\n\n\n"
                     "def g():\n    '''G.'''\n    return f()\n",
                     "def f(a):\n    '''F.'''\n    yield a\n\n\n"
                     "def g(a):\n    '''G.'''\n    return list(f(a + 1))\n",
                     "def f(a):\n    '''F.'''\n    try:\n        a.append(1)\n    finally:\n        a.clear()\n", "def f(a):\n    '''F.'''\n    return a.encode()\n",
                     "def f(a):\n    '''F.'''\n    return a is f\n", "A = 0.5\n", "A = '%'\n", "A = 1\nA = 2\n",
                     "def f():\n    '''F.'''\n    return open('a')\n", "from math import floor\n",
                     "def f(a):\n    '''F.'''\n    for b in a:\n        a.append(b)\n", "print('a')\n",
                     "def f(a):\n    '''F.'''\n    try:\n        return a[0]\n    except KeyError:\n        return 1\n"):
            self.assertNotEqual(faults_of(text), [], text)
        for text in ("def f(a):\n    '''F.'''\n    return [b for b in range(a)]\n",
                     "def f(a):\n    '''F.'''\n    return 2 ** (int(a) % 65)\n",
                     "from itertools import accumulate\n\n\ndef f(a):\n    '''F.'''\n    return list(accumulate(a))\n"):
            self.assertEqual(faults_of(text), [], text)
