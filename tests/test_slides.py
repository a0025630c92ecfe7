import unittest

from ghostcords.errors import BadNumber, BadTangle, TooMany
from ghostcords.names import names_behind, readings
from ghostcords.slides import put_in, slides, slid
from ghostcords.tangles import Tangle
from ghostcords.words import Word
from helpers import GREAT, NO_INTEGERS, ODD, random_tangle, refuses, seeded

LOT = (0, 1, 2, 3, 4)


def slow_slides(tangle):
    found, crossings = [], tangle.crossings
    for at in range(len(crossings) - 1):
        (p, a), (q, b) = crossings[at:at + 2]
        if abs(p - q) >= 2:
            found.append(("far", at))
        if p == q and a == -b:
            found.append(("undo", at))
        if abs(p - q) == 1 and at + 2 < len(crossings):
            r, c = crossings[at + 2]
            if r == p and not (a == c and b == -a):
                found.append(("three", at))
    return tuple(found)


class Slides(unittest.TestCase):
    def test_which_can_be_done(self):
        chance = seeded(1)
        for lot in (LOT, (0, 1, 2, 4), (1, 2, 3), (0, 3)):
            for _ in range(10):
                tangle = random_tangle(chance, lot, 30)
                self.assertEqual(slides(tangle), slow_slides(tangle))
        self.assertEqual([slides(Tangle([3])), slides(tangle=Tangle([0, 1], [(0, 1)] * 2))], [(), ()])
        for a in (1, -1):
            for b in (1, -1):
                for c in (1, -1):
                    for p, q in ((0, 1), (1, 0)):
                        ends = [(q, 1), (p, 1), (q, 1)]
                        tangle = Tangle([0, 1, 2], [(p, a), (q, b), (p, c)] + ends)
                        self.assertEqual(("three", 0) in slides(tangle), not (a == c != b))

    def test_what_they_do(self):
        tangle = Tangle.read("0 1 2 3 : +0 -2 +0 -2")
        self.assertEqual(str(slid(tangle, "far", 1)), "0 1 2 3 : +0 +0 -2 -2")
        self.assertEqual(str(slid(at=0, word="undo", tangle=Tangle.read("0 1 : -0 +0"))), "0 1 :")
        tangle = Tangle.read("0 1 2 : -1 +0 +1 -0 -1 -0")
        self.assertEqual(str(slid(tangle, "three", 0)), "0 1 2 : +0 +1 -0 -0 -1 -0")

    def test_they_leave_names_and_are_taken_back(self):
        chance = seeded(2)
        words = {"far": 0, "undo": 0, "three": 0}
        for _ in range(15):
            tangle = random_tangle(chance, LOT, 25)
            for word, at in slides(tangle):
                words[word] += 1
                changed = slid(tangle, word, at)
                many = 3 if word == "three" else 2
                left = 0 if word == "undo" else many
                self.assertEqual(len(changed), len(tangle) - many + left)
                self.assertEqual(names_behind(changed, at + left), names_behind(tangle, at + many))
                if word == "undo":
                    self.assertEqual(put_in(changed, at, *tangle.crossings[at]), tangle)
                else:
                    self.assertEqual(slid(changed, word, at), tangle)
            at, place = chance.randrange(len(tangle) + 1), chance.randrange(4)
            more = put_in(tangle, at, place, chance.choice((1, -1)))
            self.assertEqual(readings(more), readings(tangle))
            self.assertEqual(slid(more, "undo", at), tangle)
        self.assertGreater(min(words.values()), 5)

    def test_put_in(self):
        tangle = Tangle.read("0 1 2 : +0 +0")
        texts = ["0 1 2 : -1 +1 +0 +0", "0 1 2 : +0 -1 +1 +0", "0 1 2 : +0 +0 -1 +1"]
        self.assertEqual([str(put_in(tangle, at, 1, -1)) for at in range(3)], texts)
        self.assertEqual(put_in(sign=1, place=0, at=0, tangle=Tangle([0, 1])).crossings, ((0, 1), (0, -1)))
        for value in NO_INTEGERS + GREAT + (-1, 3):
            refuses(self, BadNumber("at"), put_in, tangle, value, "x", "x")
        for value in NO_INTEGERS + GREAT + (-1, 2):
            refuses(self, BadNumber("place"), put_in, tangle, 0, value, "x")
            refuses(self, BadNumber("place"), put_in, Tangle([0]), 0, value, "x")
        refuses(self, BadNumber("place"), put_in, Tangle([0]), 0, 0, 1)
        for value in NO_INTEGERS + GREAT + (0, 2):
            refuses(self, BadNumber("sign"), put_in, tangle, 0, 0, value)
        full = Tangle([0, 1], [(0, 1)] * 2000)
        refuses(self, TooMany("crossings", 2000), put_in, full, 0, 0, 1)
        refuses(self, BadNumber("sign"), put_in, full, 0, 0, 0)

    def test_refusals(self):
        tangle = Tangle.read("0 1 2 : +0 +1 +0 -0 -1 -0")
        for value in ODD + (0, "0 1 :", Word()):
            refuses(self, BadTangle("tangle"), slides, value)
            refuses(self, BadTangle("tangle"), slid, value, "x", "x")
            refuses(self, BadTangle("tangle"), put_in, value, "x", "x", "x")
        for value in NO_INTEGERS + GREAT + (-1, 1, 5, 6):
            for word in ("three", "undo", "far", "Three", None, ("three",), 0):
                refuses(self, BadNumber("at"), slid, tangle, word, value)
        for value in ODD + GREAT + ("undo", "far", ["three"], "three "):
            refuses(self, BadNumber("at"), slid, tangle, value, 0)
        refuses(self, BadNumber("at"), slid, Tangle.read("0 1 : +0 -0"), "undo", False)


if __name__ == "__main__":
    unittest.main()
