import unittest

from ghostcords.errors import BadForm, BadLot, BadWord, NoCord, TooMany
from ghostcords.forms import Form, form_of, places_of
from ghostcords.knit import crossings_of, knit, wind
from ghostcords.names import readings
from ghostcords.readings import Reading
from ghostcords.tangles import Tangle
from ghostcords.windings import word_for
from ghostcords.words import Word
from helpers import GREAT, NO_INTEGERS, ODD, all_lots, all_rows, random_word, refuses, seeded

LOT = (0, 1, 2, 3, 4)


def lesser(lot, cord):
    return tuple(other for other in lot if other < cord)


def slow_wind(lot, cord, word):
    crossings, p = [], lot.index(cord)
    for letter, sign in word.letters:
        q = lot.index(letter)
        crossings += [(between, -1) for between in range(q + 1, p)][::-1]
        crossings += [(q, sign), (q, sign)]
        crossings += [(between, 1) for between in range(q + 1, p)]
    return Tangle(lot, crossings)


def weavings(one, other):
    if not one or not other:
        return [one + other]
    return [one[:1] + rest for rest in weavings(one[1:], other)] + [other[:1] + rest for rest in weavings(one, other[1:])]


class Winds(unittest.TestCase):
    def test_as_defined(self):
        chance = seeded(1)
        for lot in all_lots():
            for cord in lot:
                word = random_word(chance, 12, lesser(lot, cord))
                tangle = wind(word=word, cord=cord, lot=list(lot))
                self.assertEqual(tangle, slow_wind(lot, cord, word))
                self.assertEqual(wind(lot, cord, Word()), Tangle(lot))

    def test_what_all_cords_read(self):
        chance = seeded(2)
        for lot in (LOT, (0, 1, 3), (1, 4)):
            for cord in lot:
                word = random_word(chance, 9, lesser(lot, cord))
                read = dict(zip(lot, readings(wind(lot, cord, word))))
                for j in lot:
                    for row in all_rows([other for other in lot if other != j]):
                        if j == cord:
                            wanted = word.count(row)
                        elif j > cord or cord not in row:
                            wanted = int(row == ())
                        else:
                            at = row.index(cord)
                            wanted = 0
                            for x in weavings(row[:at][::-1], row[at + 1:]):
                                wanted += word.count(x + (j,)) + (word.count(x) if x and x[-1] < j else 0)
                            wanted *= (-1) ** at
                        self.assertEqual(read[j].count(row), wanted)

    def test_refusals(self):
        for value in ODD + GREAT + (0, (1, 0)):
            if value != []:
                refuses(self, BadLot("lot"), wind, value, "x", "x")
        for value in NO_INTEGERS + GREAT + (2, -1, 5):
            refuses(self, NoCord(value), wind, [0, 1, 3], value, "x")
            refuses(self, NoCord(value), wind, [], value, "x")
        for value in ODD + GREAT + (0, [(0, 1)], "+0", Reading([0])):
            refuses(self, BadWord("word"), wind, (0, 1, 3), 1, value)
        for text in ("+1", "+0 -3", "-2", "+0 +4"):
            refuses(self, BadWord("word"), wind, (0, 1, 3), 1, Word.read(text))
        refuses(self, BadWord("word"), wind, [0, 1], 0, Word.read("+0"))
        self.assertEqual(len(wind([0, 1], 1, Word([(0, 1)] * 1000))), 2000)
        refuses(self, TooMany("crossings", 2000), wind, [0, 1], 1, Word([(0, 1)] * 1001))
        refuses(self, TooMany("crossings", 2000), wind, LOT, 4, Word([(0, 1)] * 2000))
        refuses(self, BadWord("word"), wind, LOT, 3, Word([(0, 1)] * 1999 + [(3, 1)]))


class Knits(unittest.TestCase):
    def test_each_form_is_that_of_its_knit_tangle(self):
        chance = seeded(3)
        for lot in all_lots():
            if not lot:
                continue
            for many in (0, 2, 4):
                places = places_of(lot)
                chosen = chance.sample(places, min(many, len(places)))
                form = Form(lot, [(place, chance.choice((-2, -1, 1))) for place in chosen])
                if crossings_of(form) > 2000:
                    refuses(self, TooMany("crossings", 2000), knit, form)
                    continue
                tangle = knit(form=form)
                self.assertEqual(form_of(tangle), form)
                self.assertEqual(len(tangle), crossings_of(form=form))
                wanted = Tangle(lot)
                for cord in reversed(lot):
                    wanted = wanted * slow_wind(lot, cord, word_for(form.reading(cord)))
                self.assertEqual(tangle, wanted)
        self.assertEqual(knit(Form([3])), Tangle([3]))

    def test_numbers_are_free_of_one_another(self):
        for place in places_of((0, 1, 2, 3)):
            for number in (1, -1, 3):
                form = Form((0, 1, 2, 3), [(place, number)])
                self.assertEqual(form_of(knit(form)), form)

    def test_too_many_crossings(self):
        full = Form((0, 1), [((1, (0,)), -1000)])
        self.assertEqual((len(knit(full)), crossings_of(full)), (2000, 2000))
        for form in (Form((0, 1), [((1, (0,)), 1001)]), Form((0, 2, 3), [((3, (0, 2)), 10 ** 30)]),
                     Form((0, 1), [((1, (0,)), 10 ** 5000)])):
            refuses(self, TooMany("crossings", 2000), knit, form)
        self.assertEqual(crossings_of(Form((0, 2, 3), [((3, (0, 2)), -10 ** 30)])), 12 * 10 ** 30)
        self.assertEqual(crossings_of(Form((0, 1, 4), [((4, (0,)), 10 ** 30), ((1, (0,)), -5)])), 4 * 10 ** 30 + 10)
        self.assertEqual([crossings_of(Form(())), crossings_of(Form([2])), crossings_of(Form(LOT))], [0, 0, 0])

    def test_refusals(self):
        for value in ODD + GREAT + (0, "0 1 :", Tangle([0]), Word()):
            refuses(self, BadForm("form"), knit, value)
            refuses(self, BadForm("form"), crossings_of, value)
        refuses(self, BadForm("form"), knit, Form([]))


if __name__ == "__main__":
    unittest.main()
