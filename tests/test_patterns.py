import time
import unittest

from ghostcords.errors import BadLot, BadNumber, BadPattern, BadRow, TooMany
from ghostcords.patterns import Pattern, counted
from ghostcords.polynomials import Binomial
from ghostcords.readings import Reading
from ghostcords.words import Word
from helpers import GREAT, NO_INTEGERS, ODD, all_lots, all_rows, random_word, refuses, seeded

LOT = (0, 1, 2, 3, 4)


def random_pattern(chance, blocks, most=3, letters=5, lot=LOT):
    return Pattern([(random_word(chance, chance.randint(0, letters), lot), chance.randint(-most, most),
                     chance.randint(-most, most)) for _ in range(blocks)])


def slow_word(pattern, t):
    word = Word()
    for block, u, v in pattern.blocks:
        for _ in range(abs(u * t + v)):
            word = word * (block if u * t + v > 0 else ~block)
    return word


class Patterns(unittest.TestCase):
    def test_attributes(self):
        word = Word([(3, 1), (0, -1)])
        blocks = [[word, 1, 0], (Word(), 0, 10 ** 30), (Word([(4, 1)]), 0, 0)]
        pattern = Pattern(blocks=blocks)
        blocks[0][1] = 7
        blocks.pop()
        self.assertEqual(pattern.blocks, ((word, 1, 0), (Word(), 0, 10 ** 30), (Word([(4, 1)]), 0, 0)))
        self.assertEqual((pattern.cords, len(pattern)), ((0, 3, 4), 3))
        self.assertEqual([Pattern([]).blocks, Pattern(()).cords, len(Pattern([])), Pattern([]).word_at(5)], [(), (), 0, Word()])

    def test_refusals(self):
        word = Word([(0, 1)])
        for value in ODD + GREAT + (0, [word], [(word, 1)], [(word, 1, 2, 3)], [(word, True, 0)], [(word, 1, 1.0)],
                                    [("+0", 1, 0)], [(((0, 1),), 1, 0)], [(word, 1, 0), None], {0: (word, 1, 0)}, word,
                                    [(word, None, 0)], [(1, 0, word)], Pattern([])):
            if value != []:
                refuses(self, BadPattern("blocks"), Pattern, value)
        long = Word([(0, 1)] * 13)
        refuses(self, TooMany("blocks", 12), Pattern, [(long, 1, 0)] * 13)
        refuses(self, TooMany("letters", 12), Pattern, [(word, 1, 0)] * 11 + [(long, 0, 0)])
        refuses(self, BadPattern("blocks"), Pattern, [(long, 1, 0)] * 13 + [0])
        self.assertEqual(len(Pattern([(Word([(0, 1)] * 12), 1, 0)] * 12)), 12)
        pattern = Pattern([(word, 1, 0)])
        for value in NO_INTEGERS:
            refuses(self, BadNumber("t"), pattern.word_at, value)
            refuses(self, BadNumber("t"), pattern.at, value, "x")
            refuses(self, BadNumber("u"), pattern.put, value, "x")
            refuses(self, BadNumber("v"), pattern.put, 0, value)
        for value in ODD + GREAT + (0, ((word, 1, 0),), word, Binomial([1])):
            refuses(self, BadPattern("other"), lambda value: pattern * value, value)
            refuses(self, BadPattern("pattern"), counted, value, "x")
        for value in ODD + GREAT + ((1, 0), 0):
            if value != []:
                refuses(self, BadLot("lot"), pattern.at, 1, value)
        for value in ODD + GREAT + ((0, 0), 0):
            if value != []:
                refuses(self, BadRow("row"), counted, pattern, value)

    def test_behind_opposite_and_put(self):
        chance = seeded(1)
        for _ in range(12):
            one, other = random_pattern(chance, 3), random_pattern(chance, 2)
            u, v = chance.randint(-2, 2), chance.randint(-2, 2)
            for t in range(-3, 4):
                self.assertEqual((one * other).word_at(t), one.word_at(t) * other.word_at(t))
                self.assertEqual((~one).word_at(t), ~one.word_at(t))
                self.assertEqual(one.put(u=u, v=v).word_at(t), one.word_at(u * t + v))
        one = Pattern([(Word([(0, 1)]), 2, 3), (Word([(1, 1)]), -1, 10 ** 25)])
        self.assertEqual((~one).blocks, ((one.blocks[1][0], 1, -10 ** 25), (one.blocks[0][0], -2, -3)))
        self.assertEqual(one.put(10 ** 20, -5).blocks[0], (one.blocks[0][0], 2 * 10 ** 20, -7))
        self.assertEqual((one * ~one).blocks, one.blocks + (~one).blocks)
        seven = Pattern(one.blocks * 3)
        self.assertEqual(len(seven * seven), 12)
        refuses(self, TooMany("blocks", 12), lambda: seven * seven * Pattern([(Word(), 0, 0)]))

    def test_equal(self):
        one = Pattern([(Word([(0, 1)]), 1, 0)])
        self.assertTrue(one == Pattern([[Word([[0, 1]]), 1, 0]]) and not one != Pattern(one.blocks))
        for other in (Pattern([(Word([(0, 1)]), 1, 1)]), Pattern([]), one * one, one.blocks, None):
            self.assertIs(one == other, False)
            self.assertIs(one != other, True)

    def test_words(self):
        chance = seeded(2)
        for blocks in (0, 1, 2, 5, 12):
            pattern = random_pattern(chance, blocks)
            for t in range(-4, 5):
                self.assertEqual(pattern.word_at(t=t), slow_word(pattern, t))
                for lot in all_lots()[::5]:
                    self.assertEqual(pattern.at(t=t, lot=list(lot)), Reading.of(slow_word(pattern, t), lot))

    def test_two_thousand_letters(self):
        pattern = Pattern([(Word([(0, 1), (1, 1)]), 1, 0), (Word(), 10 ** 30, 1)])
        self.assertEqual([len(pattern.word_at(1000)), len(pattern.word_at(-1000))], [2000, 2000])
        for t in (1001, -1001, 10 ** 25, -10 ** 25):
            refuses(self, TooMany("letters", 2000), pattern.word_at, t)
        both = Pattern([(Word([(0, 1)] * 12), 1, 0), (Word([(0, -1)] * 8), -1, 0)])
        self.assertEqual(len(both.word_at(100)), 2000)
        refuses(self, TooMany("letters", 2000), both.word_at, 101)
        great = pattern.at(10 ** 25, (0, 1))
        self.assertEqual(great.leads, (((0,), 10 ** 25), ((1,), 10 ** 25), ((0, 1), 10 ** 25 * (10 ** 25 + 1) // 2)))
        self.assertEqual(pattern.at(-10 ** 25, [0, 1]) * great, Reading((0, 1)))

    def test_counts_at_every_row(self):
        chance = seeded(3)
        for lot in ((0, 1), (0, 2, 4), (0, 1, 2, 3), LOT):
            for blocks in (0, 1, 4):
                pattern = random_pattern(chance, blocks, lot=lot)
                words = {t: pattern.word_at(t) for t in (-3, -1, 0, 1, 2, 7)}
                for row in all_rows(LOT)[::1 if len(lot) < 4 else 5]:
                    binomial = counted(pattern=pattern, row=list(row))
                    self.assertLessEqual(binomial.degree, len(row))
                    for t, word in words.items():
                        self.assertEqual(binomial.at(t), word.count(row))

    def test_great_numbers(self):
        chance = seeded(4)
        great = 10 ** 25
        pattern = Pattern([(random_word(chance, 6), chance.randint(-great, great), chance.randint(-great, great))
                           for _ in range(12)])
        start = time.process_time()
        for row in ((0, 1, 2, 3, 4), (4, 2, 0, 1), (3,), ()):
            binomial = counted(pattern, row)
            for t in (0, 1, -1, great, -great):
                self.assertEqual(binomial.at(t), pattern.at(t, tuple(sorted(row))).count(row))
        self.assertLess(time.process_time() - start, 3)

    def test_zero_times_for_some_t(self):
        pattern = Pattern([(Word([(0, 1), (1, 1)]), 3, -6), (Word([(1, 1)]), 0, 0)])
        self.assertEqual([str(pattern.word_at(t)) for t in (2, 3, 1)], [".", "+0 +1 +0 +1 +0 +1", "-1 -0 -1 -0 -1 -0"])
        self.assertEqual(counted(pattern, (0,)).numbers, (-6, 3))


if __name__ == "__main__":
    unittest.main()
