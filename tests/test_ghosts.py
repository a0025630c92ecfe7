import unittest

from ghostcords.errors import BadNumber, BadWord, NoCord, TooMany
from ghostcords.ghosts import put_in, struck, swapped, swaps
from ghostcords.words import Word
from helpers import GREAT, NO_INTEGERS, ODD, all_rows, random_word, refuses, seeded

LOT = (0, 1, 2, 3, 4)


def slow_swaps(word):
    letters, found = word.letters, []
    for at in range(len(letters)):
        for end in range(at + 2, len(letters) + 1):
            block = letters[at + 1:end]
            half = len(block) // 2
            if len(block) % 2 == 1 and block[half][0] == letters[at][0]:
                if block[half + 1:] == (~Word(block[:half])).letters:
                    found.append((at, end))
    return tuple(found)


def winded_word(chance):
    """A word with many blocks in it."""
    word = random_word(chance, 2)
    for _ in range(4):
        other = random_word(chance, 1)
        word = word * other * ~word if chance.random() < 0.5 and len(word) < 14 else other * word
    return word


class Ghosts(unittest.TestCase):
    def counts(self, word):
        return [word.count(row) for row in all_rows(LOT)]

    def test_struck(self):
        word = Word.read("+0 +1 -1 -0 -0")
        self.assertEqual(str(struck(word=word, at=1)), "+0 -0 -0")
        self.assertEqual(str(struck(struck(word, 1), 0)), "-0")
        for at in (0, 2, 3, 4, 5, -1, -4) + NO_INTEGERS + GREAT:
            refuses(self, BadNumber("at"), struck, word, at)
        refuses(self, BadNumber("at"), struck, Word(), 0)
        self.assertEqual(str(struck(Word.read("-2 +2"), 0)), ".")

    def test_put_in(self):
        word = Word.read("+0 +1")
        self.assertEqual([str(put_in(word, at, 2, -1)) for at in range(3)], ["-2 +2 +0 +1", "+0 -2 +2 +1", "+0 +1 -2 +2"])
        self.assertEqual(put_in(Word(), 0, 4, 1), put_in(sign=1, cord=4, at=0, word=Word()))
        for at in (-1, 3) + NO_INTEGERS + GREAT:
            refuses(self, BadNumber("at"), put_in, word, at, "x", "x")
        for cord in (-1, 5) + NO_INTEGERS + GREAT:
            refuses(self, NoCord(cord), put_in, word, 0, cord, "x")
        for sign in (0, 2, -2) + NO_INTEGERS + GREAT:
            refuses(self, BadNumber("sign"), put_in, word, 0, 0, sign)
        full = Word([(0, 1)] * 1999)
        refuses(self, TooMany("letters", 2000), put_in, full, 5, 0, 1)
        refuses(self, BadNumber("sign"), put_in, full, 5, 0, 0)
        self.assertEqual(len(put_in(Word([(0, 1)] * 1998), 1998, 0, 1)), 2000)

    def test_swapped(self):
        word = Word.read("+0 +1 -2 -0 +2 -1 +3")
        self.assertEqual(str(swapped(word=word, at=0, end=6)), "+1 -2 -0 +2 -1 +0 +3")
        self.assertEqual(str(swapped(Word.read("+1 +1"), 0, 2)), "+1 +1")
        self.assertEqual(str(swapped(Word.read("-1 +1 +0"), 0, 2)), "+1 -1 +0")
        for at in (-1, 7) + NO_INTEGERS + GREAT:
            refuses(self, BadNumber("at"), swapped, word, at, 6)
        for end in (-1, 0, 1, 2, 3, 4, 5, 7, 8) + NO_INTEGERS + GREAT:
            refuses(self, BadNumber("end"), swapped, word, 0, end)
        refuses(self, BadNumber("at"), swapped, Word(), 0, 2)
        refuses(self, BadNumber("end"), swapped, word, 6, 8)

    def test_swaps(self):
        chance = seeded(1)
        self.assertEqual([swaps(Word()), swaps(Word([(0, 1)])), swaps(Word.read("+0 +1 +0"))], [(), (), ()])
        found = 0
        for _ in range(60):
            word = winded_word(chance)
            self.assertEqual(swaps(word), slow_swaps(word))
            found += len(swaps(word))
            for at in range(len(word)):
                for end in range(at + 2, len(word) + 1):
                    if (at, end) not in swaps(word):
                        refuses(self, BadNumber("end"), swapped, word, at, end)
        self.assertGreater(found, 60)
        self.assertEqual(len(swaps(word=Word([(0, 1)] * 60))), 59)
        there = Word([(0, 1)] * 30)
        self.assertEqual(swaps(there * ~there), slow_swaps(there * ~there))
        self.assertEqual(len(swaps(there * ~there)), 57 + 29 + 30)

    def test_all_leave_the_counts(self):
        chance = seeded(2)
        for _ in range(25):
            word = winded_word(chance)
            counts = self.counts(word)
            for at, end in swaps(word):
                self.assertEqual(self.counts(swapped(word, at, end)), counts)
            more = put_in(word, chance.randrange(len(word) + 1), chance.randrange(5), chance.choice((1, -1)))
            self.assertEqual(self.counts(more), counts)
            for at in range(len(more) - 1):
                if more.letters[at] == (more.letters[at + 1][0], -more.letters[at + 1][1]):
                    self.assertEqual(self.counts(struck(more, at)), counts)

    def test_no_words(self):
        for value in ODD + (0, [(0, 1)], "+0"):
            refuses(self, BadWord("word"), struck, value, "x")
            refuses(self, BadWord("word"), put_in, value, "x", "x", "x")
            refuses(self, BadWord("word"), swapped, value, "x", "x")
            refuses(self, BadWord("word"), swaps, value)


if __name__ == "__main__":
    unittest.main()
