import unittest

from ghostcords.errors import BadLot, BadReading, BadRow, TooMany, Twice
from ghostcords.readings import Reading
from ghostcords.windings import exponents, from_exponents, leading_rows, letters_of, winding, word_for
from ghostcords.words import Word
from helpers import GREAT, ODD, all_lots, all_rows, random_word, refuses, seeded

LOT = (0, 1, 2, 3, 4)


def random_pairs(chance, lot, most):
    return [(row, chance.randint(-most, most)) for row in leading_rows(lot) if chance.random() < 0.6]


class Windings(unittest.TestCase):
    def test_leading_rows(self):
        for lot in all_lots():
            rows = tuple(row for row in all_rows(lot) if row and row[0] == min(row))
            self.assertEqual(leading_rows(list(lot)), rows)
        self.assertEqual([len(leading_rows(LOT[:many])) for many in range(6)], [0, 1, 3, 8, 24, 89])
        self.assertEqual(leading_rows(lot=[3]), ((3,),))
        for value in ODD + GREAT + (0, (1, 0), Reading([])):
            if value != []:
                refuses(self, BadLot("lot"), leading_rows, value)

    def test_winding(self):
        lengths = [0, 1, 4, 10, 22, 46]
        for row in leading_rows(LOT):
            word = winding(list(row))
            self.assertEqual(len(word), lengths[len(row)])
            if len(row) > 1:
                ahead, letter = winding(row[:-1]), Word([(row[-1], 1)])
                self.assertEqual(word, ahead * letter * ~ahead * ~letter)
            for other in all_rows(LOT)[1:]:
                if set(other) != set(row) or other[0] == min(other):
                    self.assertEqual(word.count(other), int(other == row))
                elif other[0] == row[-1]:
                    self.assertEqual(word.count(other), -winding(row[:-1]).count(other[1:]))
                else:
                    self.assertEqual(word.count(other), 0 if other[-1] != row[-1] else winding(row[:-1]).count(other[:-1]))
        self.assertEqual(str(winding(row=(3,))), "+3")
        for value in ODD + GREAT + ((), [], 0, (1, 0), (1, 2, 0)):
            refuses(self, BadRow("row"), winding, value)

    def test_exponents_and_back(self):
        chance = seeded(1)
        for lot in all_lots():
            for most in (1, 9, 10 ** 30):
                pairs = random_pairs(chance, lot, most)
                reading = from_exponents(list(lot), [list(pair) for pair in reversed(pairs)])
                self.assertEqual(exponents(reading=reading), tuple(pair for pair in pairs if pair[1] != 0))
                told = Reading(lot, pairs)
                self.assertEqual(from_exponents(lot, exponents(told)), told)
        self.assertEqual(from_exponents(lot=(), pairs=[]), Reading([]))

    def test_words_for_readings(self):
        chance = seeded(2)
        for lot in all_lots():
            reading = Reading.of(random_word(chance, 12, lot), lot)
            if letters_of(reading) <= 2000:
                word = word_for(reading=reading)
                self.assertEqual(len(word), letters_of(reading=reading))
                self.assertEqual(Reading.of(word, lot), reading)
            pairs = random_pairs(chance, lot, 2)
            letters = []
            for row, times in pairs:
                letters.extend((winding(row) if times > 0 else ~winding(row)).letters * abs(times))
            if len(letters) <= 2000:
                self.assertEqual(word_for(from_exponents(lot, pairs)), Word(letters))
                self.assertEqual(letters_of(from_exponents(lot, pairs)), len(letters))

    def test_too_many_letters(self):
        self.assertEqual(len(word_for(Reading([0], [((0,), -2000)]))), 2000)
        self.assertEqual(len(word_for(Reading([0, 1], [((0, 1), 500)]))), 2000)
        self.assertEqual(str(word_for(Reading([]))), ".")
        for reading in (Reading([0], [((0,), 2001)]), Reading([0, 1], [((0, 1), -501)]), Reading([0], [((0,), 10 ** 5000)])):
            refuses(self, TooMany("letters", 2000), word_for, reading)
        self.assertEqual(letters_of(Reading([0, 1], [((0, 1), -10 ** 30)])), 4 * 10 ** 30)
        self.assertEqual(letters_of(from_exponents(LOT, [(row, 10 ** 25) for row in leading_rows(LOT)])),
                         (5 * 1 + 10 * 4 + 20 * 10 + 30 * 22 + 24 * 46) * 10 ** 25)

    def test_refusals(self):
        for value in ODD + GREAT + (0, Word(), ((0,), ())):
            refuses(self, BadReading("reading"), exponents, value)
            refuses(self, BadReading("reading"), word_for, value)
            refuses(self, BadReading("reading"), letters_of, value)
            if value != []:
                refuses(self, BadLot("lot"), from_exponents, value, "x")
        for value in ODD + GREAT + (0, [0], [((0,), 1, 1)], [((), 1)], [((1, 0), 1)], [((2,), 1)], [((0,), True)], {(0,): 1}):
            if value != []:
                refuses(self, BadReading("pairs"), from_exponents, (0, 1), value)
        refuses(self, Twice((1,)), from_exponents, [0, 1], [([0], 0), ([1], 2), ((1,), 2), ([0], 0)])
        refuses(self, BadLot("lot"), from_exponents, (1, 0), [((1,), 1), ((1,), 1)])
        refuses(self, BadReading("pairs"), from_exponents, (0,), [((0,), 1), ((0,), 1), None])


class Bounds(unittest.TestCase):
    def test_great_numbers(self):
        great = Reading(LOT, [(row, 10 ** 600 + at) for at, row in enumerate(leading_rows(LOT))])
        self.assertEqual(great.repeated(10 ** 600).root(10 ** 600), great)
        self.assertEqual((great * ~great).leads, ())
        self.assertEqual(from_exponents(LOT, exponents(great)), great)
        self.assertGreater(letters_of(great), 10 ** 600)


if __name__ == "__main__":
    unittest.main()
