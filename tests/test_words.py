import itertools
import unittest

from ghostcords.errors import BadRow, BadText, BadWord, NoCord, TooMany, Twice
from ghostcords.words import Word
from helpers import GREAT, ODD, all_rows, random_word, refuses, seeded, slow_count

LOT = (0, 1, 2, 3, 4)


class Words(unittest.TestCase):
    def test_what_is_passed_is_copied(self):
        letters = [[3, 1], (1, -1)]
        word = Word(letters=letters)
        letters[0][0] = 4
        letters.append((0, 1))
        self.assertEqual((word.letters, word.cords, len(word)), (((3, 1), (1, -1)), (1, 3), 2))
        self.assertEqual((Word().letters, Word().cords, len(Word())), ((), (), 0))
        self.assertEqual(Word(((0, 1),)), Word([[0, 1]]))

    def test_no_letters(self):
        for value in ODD + GREAT + ([0, 1], [(0, 1), (0, 0)], [(5, 1)], [(0, 2)], [(0, True)], [(False, 1)], [(0, 1, 1)],
                                    [(0,)], [(0, 1.0)], [[[0, 1]]], ["01"], Word(), [(10 ** 30, 1)], [((0,), 1)]):
            if value != []:
                refuses(self, BadWord("letters"), Word, value)

    def test_too_many_letters(self):
        self.assertEqual(len(Word([(0, 1)] * 2000)), 2000)
        refuses(self, TooMany("letters", 2000), Word, [(0, 1)] * 2001)
        refuses(self, BadWord("letters"), Word, [(0, 1)] * 2001 + [None])
        long = Word([(0, 1)] * 1001)
        refuses(self, TooMany("letters", 2000), lambda: long * long)
        self.assertEqual(len(Word([(1, 1)] * 999) * long), 2000)
        self.assertEqual(Word([(1, 1), (0, 1)] * 1000).count((1, 0)), 1000 * 1001 // 2)

    def test_behind_and_opposite(self):
        one, other = Word([(0, 1), (1, -1)]), Word([(2, 1)])
        self.assertEqual((one * other).letters, ((0, 1), (1, -1), (2, 1)))
        self.assertEqual((~one).letters, ((1, 1), (0, -1)))
        self.assertEqual(~Word(), Word())
        self.assertEqual((one.letters, other.letters), (((0, 1), (1, -1)), ((2, 1),)))
        for value in ODD + (3, [(0, 1)], ()):
            refuses(self, BadWord("other"), lambda value: one * value, value)

    def test_counts_as_defined(self):
        chance = seeded(1)
        for many in range(9):
            word = random_word(chance, many)
            for row in all_rows(LOT):
                self.assertEqual(word.count(row), slow_count(word.letters, row))
        self.assertEqual(word.count(row=[0]), word.count((0,)))
        for value in ODD + (0, "01", [0, 1, 1]):
            refuses(self, BadRow("row"), word.count, value)

    def test_cuts_and_own_changes(self):
        chance = seeded(2)
        for _ in range(5):
            one, other = random_word(chance, 25), random_word(chance, 30)
            for row in all_rows(LOT):
                cuts = sum(one.count(row[:cut]) * other.count(row[cut:]) for cut in range(len(row) + 1))
                self.assertEqual((one * other).count(row), cuts)
                self.assertEqual((one * ~one).count(row), int(row == ()))

    def test_without(self):
        word = Word.read("+0 -1 +0 +2")
        self.assertEqual([str(word.without(cord)) for cord in LOT], ["-1 +2", "+0 +0 +2", "+0 -1 +0", str(word), str(word)])
        self.assertEqual(word.without(cord=2), Word.read("+0 -1 +0"))
        for value in ODD + GREAT + (5, -1, [0]):
            refuses(self, NoCord(value), word.without, value)
        for row in all_rows((1, 2, 3)):
            self.assertEqual(word.without(0).count(row), word.count(row))

    def test_as_one(self):
        word = random_word(seeded(3), 40)
        merged = word.as_one(one=1, other=3)
        self.assertNotIn(3, merged.cords)
        for row in all_rows((0, 1, 2, 4)):
            both = word.count(row)
            if 1 in row:
                both += word.count([3 if cord == 1 else cord for cord in row])
            self.assertEqual(merged.count(row), both)
        for value in ODD + GREAT + (5, -1):
            refuses(self, NoCord(value), word.as_one, value, "x")
            refuses(self, NoCord(value), word.as_one, 2, value)
        refuses(self, Twice(2), word.as_one, 2, 2)

    def test_renamed(self):
        word = random_word(seeded(4), 30)
        for cords in itertools.permutations(LOT):
            renamed = word.renamed(list(cords))
            self.assertEqual(renamed.letters, tuple((cords[cord], sign) for cord, sign in word.letters))
        self.assertEqual(renamed.count((4, 2)), word.count((0, 2)))
        self.assertEqual(word.renamed(cords=LOT), word)
        for value in ODD + ((), [0, 1, 2, 3], [0, 1, 2, 3, 3], [0, 1, 2, 3, 5], (True, 0, 2, 3, 4), 0):
            refuses(self, BadRow("cords"), word.renamed, value)

    def test_equal(self):
        word = Word([(0, 1)])
        for other in (Word([(0, -1)]), Word(), ((0, 1),), [(0, 1)], None, "+0", 0):
            self.assertIs(word == other, False)
            self.assertIs(word != other, True)
        self.assertIs(word != Word([[0, 1]]), False)
        self.assertIs(Word([(0, 1), (0, -1)]) == Word(), False)


class Texts(unittest.TestCase):
    def test_there_and_back(self):
        chance = seeded(5)
        for many in (0, 1, 2, 10, 60, 2000):
            word = random_word(chance, many)
            self.assertEqual(Word.read(str(word)), word)
        self.assertEqual(str(Word([(4, -1), (0, 1)])), "-4 +0")
        self.assertEqual(Word.read(text="."), Word())

    def test_words_that_cannot_stand(self):
        for text, word in (("", 0), (" ", 0), ("+0 ", 1), (" +0", 0), ("+0  +1", 1), (". ", 1), (". .", 1), (". +0", 1),
                           ("+0 .", 1), ("+5", 0), ("0", 0), ("+", 0), ("++0", 0), ("+00", 0), ("+0 -01", 1), ("+ 0", 0),
                           ("+0 +1 2 +9", 2), ("+0\n", 0), ("+\u0660", 0), ("-0 +4 -0 -", 3), ("+-1", 0), ("+0,+1", 0),
                           ("..", 0), ("+1" + "0" * 61, 0), ("\u22120", 0), ("x" * 100000, 0)):
            refuses(self, BadText(0, word), Word.read, text)

    def test_no_strings(self):
        for value in ODD + GREAT + (0, [], ["+0"], Word()):
            if not isinstance(value, str):
                refuses(self, BadText(0, 0), Word.read, value)

    def test_a_letter_too_many(self):
        text = " ".join(["+0"] * 2001)
        refuses(self, BadText(0, 2000), Word.read, text)
        refuses(self, BadText(0, 2000), Word.read, text + " x")
        refuses(self, BadText(0, 7), Word.read, text.replace("+0 ", "+0 x", 7).replace("x+0", "+0", 6))


if __name__ == "__main__":
    unittest.main()
