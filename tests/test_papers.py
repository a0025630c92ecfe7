import importlib
import os
import unittest

import ghostcords
from ghostcords.answers import Either, Kept, Never, NotKept, Struck, Surely
from ghostcords.below import NoRoot, Root
from ghostcords.beside import Crosswise, Past
from ghostcords.cuts import Cheapest, Cut
from ghostcords.papers import Denial, Paper, fixed
from ghostcords.real import Alike, Parted, Real, Unreal
from ghostcords.passes import Barred, Passes
from ghostcords.rings import OneRing, TwoRings
from ghostcords.tables import Breaks, Fits
from ghostcords.when import AllTimes, JustTimes
from ghostcords.whole import Torn, Whole
from helpers import GREAT, ODD, nested

CLASSES = {Fits: ("leads",), Alike: ("form",), Real: ("form",), Breaks: ("one", "other", "product", "total"),
           Parted: ("cord", "row", "one", "other"), Unreal: ("row", "one", "other"), Root: ("root",),
           NoRoot: ("rest", "cord", "row"), Past: (), Crosswise: ("cord", "row", "one", "other"), Cut: ("cords", "held"),
           Cheapest: ("cords", "price", "held"), Kept: ("family",), NotKept: ("held", "free"), Surely: ("numbers",),
           Never: ("numbers",), Either: ("one", "other"), Struck: ("numbers", "clashes"), AllTimes: (),
           JustTimes: ("times", "differences"), Whole: ("form", "unseen"), OneRing: ("times",),
           Torn: ("one", "other", "cord", "row", "number", "its"), TwoRings: ("which", "one", "other"),
           Passes: ("price", "runs"), Barred: ("passes",)}
DENIALS = (Breaks, Parted, Unreal, NoRoot, Crosswise, NotKept, Never, JustTimes, Torn, TwoRings,
           Barred)


class Papers(unittest.TestCase):
    def test_fixed(self):
        for value in ODD[:13] + GREAT:
            self.assertIs(fixed(value), value)
        value = [[1, [2]], (3, [4]), {5: [6]}]
        self.assertEqual(fixed(value), ((1, (2,)), (3, (4,)), {5: [6]}))
        self.assertEqual(value, [[1, [2]], (3, [4]), {5: [6]}])
        inner = fixed(value=nested(59))
        depth = 0
        while inner:
            self.assertIsInstance(inner, tuple)
            inner, depth = inner[0], depth + 1
        self.assertEqual((inner, depth), ((), 59))

    def test_paper_and_denial(self):
        parts = [1, [2]]
        paper, denial = Paper("note", parts, None), Denial("note", parts, None)
        parts[1].append(3)
        for made in (paper, denial):
            self.assertEqual((made.word, made.parts), ("note", ((1, (2,)), None)))
        self.assertEqual([bool(paper), bool(denial)], [True, False])
        self.assertEqual([Paper(word="a").parts, Denial(word="a").parts], [(), ()])
        self.assertIsInstance(denial, Paper)

    def test_equal(self):
        self.assertEqual(Paper("a", [1]), Paper("a", (1,)))
        self.assertEqual(Paper("a", 1), Paper("a", True))
        self.assertEqual(Fits([]), Fits(()))
        for other in (Paper("b", 1), Paper("a", 2), Paper("a"), Denial("a", 1), ("a", 1), "a", None, 1):
            self.assertIs(Paper("a", 1) == other, False)
            self.assertIs(Paper("a", 1) != other, True)
            self.assertIs(other == Paper("a", 1), False)
        self.assertIs(Paper("a") != Paper("a"), False)
        self.assertIs(Fits([]) == Paper("fits", []), False)
        self.assertIs(Paper("fits", []) == Fits([]), False)
        self.assertIs(Denial("a") == Denial("a"), True)
        self.assertIs(Denial("a") == Denial("b"), False)

    def test_classes(self):
        for kind, names in CLASSES.items():
            for value in ODD + GREAT + ([0, [1, (2, [3])]],):
                values = [value, [value], 0, None, "a", [0, value]][:len(names)]
                for paper in (kind(*values), kind(**dict(zip(names, values)))):
                    self.assertEqual(paper.word, kind.__name__.lower())
                    self.assertEqual(paper.parts, fixed(values))
                    self.assertEqual(tuple(getattr(paper, name) for name in names), fixed(values))
            self.assertIs(bool(paper), kind not in DENIALS)
            self.assertIs(issubclass(kind, Denial), kind in DENIALS)
            self.assertTrue(issubclass(kind, Paper))

    def test_equal_just_if_class_word_and_parts_are(self):
        for kind, names in CLASSES.items():
            values = [[0, (1,)]] * len(names)
            self.assertTrue(kind(*values) == kind(*values) and not kind(*values) != kind(*values))
            for other, its_names in CLASSES.items():
                self.assertIs(kind(*values) == other(*[[0, (1,)]] * len(its_names)), other is kind)
            self.assertIs(kind(*values) == Paper(kind.__name__.lower(), *values), False)
            for at in range(len(names)):
                self.assertIs(kind(*values) == kind(*values[:at], [0, (2,)], *values[at + 1:]), False)
                self.assertIs(kind(*values) != kind(*values[:at], [0, (2,)], *values[at + 1:]), True)

    def test_all_classes_of_papers_are_here(self):
        found = set()
        waiting = [Paper]
        for file_name in os.listdir(os.path.dirname(ghostcords.__file__)):
            importlib.import_module("ghostcords." + file_name.removesuffix(".py")) if file_name.endswith(".py") else None
        while waiting:
            found.add(waiting.pop())
            waiting += [kind for known in list(found) for kind in known.__subclasses__() if kind not in found]
        self.assertEqual({kind for kind in found if kind.__module__.startswith("ghostcords")}, {Paper, Denial, *CLASSES})


if __name__ == "__main__":
    unittest.main()
