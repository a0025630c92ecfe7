import unittest

from ghostcords.errors import BadTangle, BadText, Misfit, NoCord, TooMany
from ghostcords.tangles import Tangle
from ghostcords.words import Word
from helpers import GREAT, NO_INTEGERS, ODD, all_lots, random_tangle, refuses, seeded


class Tangles(unittest.TestCase):
    def test_attributes(self):
        lot, crossings = [0, 2, 4], [[1, 1], (1, -1), [0, 1], [0, 1]]
        tangle = Tangle(lot=lot, crossings=crossings)
        lot[0] = 1
        crossings[0][0] = 0
        crossings.pop()
        self.assertEqual((tangle.lot, len(tangle)), ((0, 2, 4), 4))
        self.assertEqual(tangle.crossings, ((1, 1), (1, -1), (0, 1), (0, 1)))
        self.assertEqual((Tangle([3]).crossings, len(Tangle((3,)))), ((), 0))

    def test_lots(self):
        for value in ODD + GREAT + ((), [], 0, (1, 0), Word()):
            refuses(self, BadTangle("lot"), Tangle, value, "x")
        for lot in all_lots():
            if lot:
                self.assertEqual(Tangle(lot).lot, lot)

    def test_crossings(self):
        for value in ODD + GREAT + (0, [0], [(0, 1), (0, 0)], [(0, 1), (0, True)], [(False, 1), (0, 1)], [(2, 1), (2, 1)],
                                    [(-1, 1), (-1, 1)], [(0, 1, 1)], [(0,)], ["01"], [(0.0, 1)], [((0,), 1)], [(0, 2)] * 2):
            if value != []:
                refuses(self, BadTangle("crossings"), Tangle, [0, 1, 2], value)
        refuses(self, BadTangle("crossings"), Tangle, [0], [(0, 1), (0, 1)])
        refuses(self, BadTangle("crossings"), Tangle, [0, 1], [(0, 1), (0, 1), (1, 1)])

    def test_ends(self):
        for crossings in ([(0, 1)], [(0, 1), (1, 1)], [(0, 1), (1, 1), (0, 1)], [(0, 1), (1, 1)] * 2, [(0, 1)] * 2001):
            refuses(self, BadTangle("ends"), Tangle, [0, 1, 2], crossings)
        self.assertEqual(len(Tangle([0, 1, 2], [(0, 1), (1, -1)] * 3)), 6)

    def test_too_many_crossings(self):
        full = Tangle([0, 1], [(0, 1)] * 2000)
        refuses(self, TooMany("crossings", 2000), Tangle, [0, 1], [(0, 1)] * 2002)
        refuses(self, TooMany("crossings", 2000), lambda: full * Tangle([0, 1], [(0, 1)] * 2))
        refuses(self, TooMany("crossings", 2000), full.beside, Tangle([2, 3], [(0, 1)] * 2))
        self.assertEqual(len(full * Tangle([0, 1])), 2000)
        self.assertEqual(len(full.beside(Tangle([2]))), 2000)
        self.assertEqual(len(~full), 2000)
        half = Tangle([0, 1], [(0, 1)] * 1000)
        self.assertEqual(half * half, full)

    def test_below(self):
        one, other = Tangle([0, 1, 2], [(0, 1)] * 2), Tangle([0, 1, 2], [(1, -1)] * 2)
        self.assertEqual((one * other).crossings, ((0, 1), (0, 1), (1, -1), (1, -1)))
        for value in ODD + (2, Word(), [(0, 1), (0, 1)]):
            refuses(self, BadTangle("other"), lambda value: one * value, value)
        for lot in ((0,), (0, 1), (0, 1, 3), (0, 1, 2, 3)):
            refuses(self, Misfit("lot"), lambda: one * Tangle(lot))
        self.assertEqual((len(one), len(other)), (2, 2))

    def test_undoing_and_mirrored(self):
        tangle = Tangle([0, 1, 2], [(0, 1), (1, -1), (0, 1), (1, 1), (0, -1), (1, 1)])
        self.assertEqual(str(~tangle), "0 1 2 : -1 +0 -1 -0 +1 -0")
        self.assertEqual(str(tangle.mirrored()), "0 1 2 : -0 +1 -0 -1 +0 -1")
        self.assertEqual([~~tangle, tangle.mirrored().mirrored()], [tangle, tangle])

    def test_without(self):
        chance = seeded(1)
        for lot in all_lots():
            if len(lot) < 2:
                continue
            tangle = random_tangle(chance, lot, 25)
            for cord in lot:
                order, wanted = list(lot), []
                for place, sign in tangle.crossings:
                    pair = order[place], order[place + 1]
                    if cord not in pair:
                        wanted.append(([other for other in order if other != cord].index(pair[0]), sign))
                    order[place:place + 2] = pair[::-1]
                rest = [other for other in lot if other != cord]
                self.assertEqual(tangle.without(cord=cord), Tangle(rest, wanted))
            for value in NO_INTEGERS + GREAT + (-1, 5) + tuple(set(range(5)) - set(lot)):
                refuses(self, NoCord(value), tangle.without, value)
        refuses(self, BadTangle("lot"), Tangle([3]).without, 3)
        refuses(self, NoCord(0), Tangle([3]).without, 0)
        refuses(self, NoCord([3]), Tangle([3]).without, [3])

    def test_beside(self):
        one, other = Tangle([0, 2], [(0, 1)] * 2), Tangle([3, 4], [(0, -1)] * 2)
        self.assertEqual(str(one.beside(other=other)), "0 2 3 4 : +0 +0 -2 -2")
        self.assertEqual(Tangle([0]).beside(Tangle([1])), Tangle([0, 1]))
        for value in ODD + (2, Word(), [3, 4]):
            refuses(self, BadTangle("other"), one.beside, value)
        for lot in ((0,), (1,), (2,), (1, 3), (2, 3), (0, 4)):
            refuses(self, Misfit("lot"), one.beside, Tangle(lot))

    def test_equal(self):
        tangle = Tangle([0, 1], [(0, 1), (0, 1)])
        for other in (Tangle([0, 1]), Tangle([0, 2], [(0, 1)] * 2), Tangle([0, 1], [(0, -1)] * 2), None, "0 1 : +0 +0"):
            self.assertIs(tangle == other, False)
            self.assertIs(tangle != other, True)
        self.assertIs(tangle != Tangle((0, 1), [[0, 1], [0, 1]]), False)


class Texts(unittest.TestCase):
    def test_there_and_back(self):
        chance = seeded(2)
        for lot in all_lots():
            if lot:
                for many in (0, 5, 60):
                    tangle = random_tangle(chance, lot, many)
                    self.assertEqual(Tangle.read(str(tangle)), tangle)
        self.assertEqual([str(Tangle([2])), str(Tangle([0, 1, 4]))], ["2 :", "0 1 4 :"])
        self.assertEqual(Tangle.read(text="3 4 : -0 +0").crossings, ((0, -1), (0, 1)))

    def test_words_that_cannot_stand(self):
        for text, word in (("", 0), (":", 0), ("0", 1), ("0 1", 2), ("5 :", 0), ("0 0 :", 1), ("1 0 :", 1), ("+0", 0),
                           ("0 : +0", 2), ("0 : ", 2), ("0 1 : +0", 3), ("0 1 : +0 +0 -0", 5), ("0 1 : +0 +1", 4),
                           ("0 1 2 : +0 +1 +0 +1", 7), ("0 1 2 : +0 +1 x", 6), ("0 1 : 0 0", 3), ("0 1 : +00 +0", 3),
                           ("0 1 : +0  +0", 4), ("0 1 : +0 +0 ", 5), (" 0 :", 0), ("0 1  :", 2), ("0 1 :: +0", 2),
                           ("0 1 : +-0 +0", 3), ("0 1 2 3 4 5", 5), ("0 1 2 3 4 4", 5), ("00 :", 0), ("0 1 : \u00b10", 3),
                           ("0 1 2 3 4 : +3 +4", 7), ("0 1 :\n+0 +0", 2), ("0 1 : + 0", 3), ("0 1 : :", 3)):
            refuses(self, BadText(0, word), Tangle.read, text)

    def test_a_crossing_too_many(self):
        self.assertEqual(len(Tangle.read("0 1 :" + " +0" * 2000)), 2000)
        refuses(self, BadText(0, 2003), Tangle.read, "0 1 :" + " +0" * 2001)
        refuses(self, BadText(0, 2003), Tangle.read, "0 1 :" + " +0" * 2002 + " x")
        refuses(self, BadText(0, 2001), Tangle.read, "0 1 :" + " +0" * 1999)

    def test_no_strings(self):
        for value in ODD + GREAT + (0, ["0", ":"], Tangle([0])):
            if not isinstance(value, str):
                refuses(self, BadText(0, 0), Tangle.read, value)


if __name__ == "__main__":
    unittest.main()
