import unittest

from ghostcords.errors import BadLot, BadNumber, BadReading, BadRow, BadText, BadWord, Misfit, NoCord, Twice
from ghostcords.readings import Reading
from ghostcords.words import Word
from helpers import GREAT, NO_INTEGERS, ODD, all_lots, all_rows, random_word, refuses, seeded

LOT = (0, 1, 2, 3, 4)


def leading(lot):
    return [row for row in all_rows(lot) if row and row[0] == min(row)]


def random_reading(chance, lot, most=10):
    return Reading(lot, [(row, chance.randint(-most, most)) for row in leading(lot) if chance.random() < 0.7])


class Readings(unittest.TestCase):
    def test_attributes(self):
        leads = [[[1], 5], ((0, 2), -1), ([0], 0), ((0, 2, 1), 10 ** 25)]
        reading = Reading(lot=[0, 1, 2], leads=leads)
        wanted = (((1,), 5), ((0, 2), -1), ((0, 2, 1), 10 ** 25))
        self.assertEqual((reading.lot, reading.leads), ((0, 1, 2), wanted))
        leads[0][1] = 6
        leads[0][0].append(2)
        self.assertEqual(reading.leads, wanted)
        self.assertEqual((Reading(()).lot, Reading(()).leads, Reading(()).counts(), Reading([]).count([])), ((), (), (), 1))
        self.assertEqual(Reading([2]).counts(), (((2,), 0),))

    def test_lots_and_leads(self):
        for value in ODD + GREAT + ([1, 0], 0, Word()):
            if value != []:
                refuses(self, BadReading("lot"), Reading, value, "x")
        for value in ODD + GREAT + (0, [0], [((0,), 1, 1)], [((0,),)], [((), 1)], [((1, 0), 1)], [((2,), 1)], [((0,), True)],
                                    [((0,), 1.0)], [((0,), None)], [(0, 1)], [((0, 0), 1)], [((0, 2), 1)], [((True,), 1)],
                                    {(0,): 1}, ["ab"], [((0,), 1), None], Reading([0])):
            if value != []:
                refuses(self, BadReading("leads"), Reading, (0, 1), value)
        refuses(self, Twice((0, 1)), Reading, [0, 1], [([1], 0), ([0, 1], 0), ((0,), 1), ((0, 1), 0), ([1], 1)])
        refuses(self, BadReading("leads"), Reading, [0], [([0], 0), ([0], 0), 0])

    def test_counts_of_words(self):
        chance = seeded(1)
        for lot in all_lots():
            word = random_word(chance, 30)
            for reading in (Reading.of(word, lot), Reading.of(lot=list(lot), word=word)):
                self.assertEqual(reading.lot, lot)
                self.assertEqual(reading.counts(), tuple((row, word.count(row)) for row in all_rows(lot)[1:]))
                leads = tuple((row, word.count(row)) for row in leading(lot) if word.count(row) != 0)
                self.assertEqual(reading.leads, leads)
                for row in all_rows(LOT):
                    self.assertEqual(reading.count(list(row)), word.count(row) if set(row) <= set(lot) else 0)
        self.assertEqual(reading.count(row=(0,)), word.count((0,)))

    def test_counts_by_leads_alone(self):
        chance = seeded(2)
        for lot in all_lots():
            reading = Reading.of(random_word(chance, 40), lot)
            self.assertEqual(Reading(lot, reversed_list(reading.leads)).counts(), reading.counts())

    def test_refusals_of_methods(self):
        reading = Reading([0, 1, 3], [((0,), 2), ((0, 3), 1)])
        for value in ODD + GREAT + (0, (0, 0)):
            if value != []:
                refuses(self, BadRow("row"), reading.count, value)
                refuses(self, BadLot("lot"), reading.within, value)
                refuses(self, BadLot("lot"), Reading.of, Word(), value)
        refuses(self, BadLot("lot"), reading.within, (1, 0))
        for value in ODD + (0, "+0", [(0, 1)], reading):
            refuses(self, BadWord("word"), Reading.of, value, "x")
        for value in ODD + (0, Word(), ((0, 1, 3), ())):
            refuses(self, BadReading("other"), lambda value: reading * value, value)
        for lot in ((), (0, 1), (0, 1, 3, 4), (0, 1, 2)):
            refuses(self, Misfit("lot"), lambda: reading * Reading(lot))
        for value in NO_INTEGERS:
            refuses(self, BadNumber("times"), reading.repeated, value)
            refuses(self, BadNumber("times"), reading.root, value)
        refuses(self, BadNumber("times"), reading.root, 0)
        for value in NO_INTEGERS + GREAT + (2, 4, 5, -1):
            refuses(self, NoCord(value), reading.as_one, value, "x")
            refuses(self, NoCord(value), reading.as_one, 3, value)
        refuses(self, Twice(3), reading.as_one, 3, 3)

    def test_behind_and_opposite(self):
        chance = seeded(3)
        for lot in all_lots():
            one, other = random_word(chance, 20), random_word(chance, 20)
            first, second = Reading.of(one, lot), Reading.of(other, lot)
            self.assertEqual(first * second, Reading.of(one * other, lot))
            self.assertEqual(~first, Reading.of(~one, lot))
            self.assertEqual(first * ~first, Reading(lot))

    def test_so_many_times(self):
        chance = seeded(4)
        for lot in all_lots():
            word = random_word(chance, 7)
            reading = Reading.of(word, lot)
            for times in range(-5, 6):
                letters = (word.letters if times > 0 else (~word).letters) * abs(times)
                self.assertEqual(reading.repeated(times), Reading.of(Word(letters), lot))
        steps = Reading([0, 1], [((0,), 1), ((1,), 1)])
        great = 10 ** 20
        self.assertEqual(steps.repeated(times=great).count((0, 1)), great * (great - 1) // 2)
        self.assertEqual(steps.repeated(-great) * steps.repeated(great), Reading((0, 1)))
        self.assertEqual(steps.repeated(0), Reading([0, 1]))
        self.assertEqual(steps.leads, (((0,), 1), ((1,), 1)))

    def test_roots(self):
        chance = seeded(5)
        for lot in all_lots():
            for times in (1, -1, 2, -2, 3, -5, 6, 24, 10 ** 20, -10 ** 30):
                reading = random_reading(chance, lot)
                self.assertEqual(reading.repeated(times).root(times), reading)
                self.assertEqual(reading.repeated(2 * times).root(times), reading.repeated(2))
        self.assertEqual(Reading([0, 1]).root(times=7), Reading([0, 1]))

    def test_no_roots(self):
        chance = seeded(6)
        self.assertIsNone(Reading([0], [((0,), 1)]).root(2))
        self.assertIsNone(Reading([0], [((0,), 1)]).root(-10 ** 40))
        self.assertIsNone(Reading([0, 1], [((0,), 2), ((1,), 2)]).root(2))
        self.assertEqual(Reading([0, 1], [((0,), 2), ((1,), 2), ((0, 1), 1)]).root(2).leads, (((0,), 1), ((1,), 1)))
        for _ in range(20):
            reading = random_reading(chance, LOT)
            times = chance.choice((2, 3, -4, 5))
            squared = reading.repeated(times)
            row, count = chance.choice(squared.leads)
            bent = Reading(LOT, [(lead, number + (lead == row)) for lead, number in squared.leads])
            root = bent.root(times)
            self.assertTrue(root is None or (len(row) < 5 and root.repeated(times) == bent))
            if len(row) == 5:
                self.assertIsNone(root)

    def test_within(self):
        chance = seeded(7)
        word = random_word(chance, 30)
        for lot in all_lots():
            for other in all_lots():
                wanted = Reading.of(Word([letter for letter in word.letters if letter[0] in lot]), other)
                self.assertEqual(Reading.of(word, lot).within(list(other)), wanted)
        self.assertEqual(Reading([0]).within(lot=(3,)), Reading([3]))

    def test_as_one(self):
        chance = seeded(8)
        for lot in all_lots():
            word = random_word(chance, 30)
            for one in lot:
                for other in lot:
                    if one != other:
                        rest = tuple(cord for cord in lot if cord != other)
                        wanted = Reading.of(word.as_one(one, other), rest)
                        self.assertEqual(Reading.of(word, lot).as_one(other=other, one=one), wanted)

    def test_equal(self):
        reading = Reading([0, 1], [((0,), 1)])
        for other in (Reading([0], [((0,), 1)]), Reading([0, 1]), Reading([0, 1], [((1,), 1)]), None, "0 1 : 0 = 1", Word()):
            self.assertIs(reading == other, False)
            self.assertIs(reading != other, True)
        self.assertIs(reading == Reading((0, 1), [([1], 0), ([0], 1)]), True)
        self.assertIs(reading != Reading((0, 1), [([0], 1)]), False)


def reversed_list(values):
    return list(reversed(values))


class Texts(unittest.TestCase):
    def test_there_and_back(self):
        chance = seeded(9)
        for lot in all_lots():
            for most in (0, 1, 10 ** 25, 10 ** 60 - 1):
                reading = random_reading(chance, lot, most)
                self.assertEqual(Reading.read(str(reading)), reading)
        self.assertEqual([str(Reading(())), str(Reading([3])), str(Reading([0, 2], [((0, 2), -7), ((2,), 10)]))],
                         [":", "3 :", "0 2 : 2 = 10 / 0 2 = -7"])
        self.assertEqual(Reading.read(text="0 1 : 0 = 1 / 1 = -12 / 0 1 = 3").count((1, 0)), -15)

    def test_words_that_cannot_stand(self):
        sixty, more = "9" * 60, "9" * 61
        self.assertEqual(Reading.read("0 : 0 = -" + sixty).count([0]), 1 - 10 ** 60)
        for text, word in (("", 0), ("0", 1), ("0 1", 2), ("5", 0), ("1 0", 1), ("0 0 :", 1), ("0 :: ", 1), (": 0", 1),
                           ("0 : ", 2), ("0 : 1", 2), ("0 1 : 1 0", 4), ("0 1 : =", 3), ("0 1 : 0", 4), ("0 1 : 0 =", 5),
                           ("0 1 : 0 = 0", 5), ("0 1 : 0 = -0", 5), ("0 1 : 0 = +1", 5), ("0 1 : 0 = 01", 5),
                           ("0 1 : 0 = 1 ", 6), ("0 1 : 0 = 1 /", 7), ("0 1 : 0 = 1 / 0 = 1", 8), ("0 1 : 0 = 1 / 0", 8),
                           ("0 1 : 1 = 1 / 0 = 2", 8), ("0 1 : 1 = 1 / 1", 7), ("0 1 : 0 1 = 1 / 0 1 = 1", 7),
                           ("0 1 : 0 1 1 = 2", 5), ("0 : 0 = " + more, 4), ("0 : 0 = -" + more, 4), ("0 : 0 = 1 2", 5),
                           ("0 : 0 = \u0661", 4), ("0 : 0 = 1_0", 4), ("0 : 0 =  1", 4), ("0  : 0 = 1", 1), (" 0 :", 0),
                           ("0 1 2 3 4 4 :", 5), ("0 1 2 3 4", 5), ("0 1 2 : 0 2 1 = 1 /", 9), ("0 1 2 : 0 1 = 1 / 2 = 1", 9),
                           ("0 1 2 : 0 1 = 1 / 1 = 1", 10), ("0 1 2 : 0 1 = 1 / 1 0", 10), ("0 1 2 : 0 1 = 1 / 0 1 = 1", 11),
                           ("0 1 2 : 0 1 = 1 / 0 2 1 = 3", None), ("0 1 2 : 0 = - / 1 = 1", 6), ("0 : 0 = 1 / 0 = 1", 5)):
            if word is None:
                self.assertEqual(str(Reading.read(text)), text)
            else:
                refuses(self, BadText(0, word), Reading.read, text)

    def test_bent_at_any_word(self):
        text = "0 1 3 : 0 = 12 / 1 3 = -1 / 0 3 1 = 4"
        words = text.split(" ")
        for at in range(len(words)):
            for bad in ("", "x", "+1", "01", "-0", "9", ":0", "=="):
                if bad != "9" or words[at] not in ("12", "-1", "4"):
                    refuses(self, BadText(0, at), Reading.read, " ".join(words[:at] + [bad] + words[at + 1:]))
            if words[:at] and not (words[at] == "/" or at == 4):
                refuses(self, BadText(0, at), Reading.read, " ".join(words[:at]))

    def test_no_strings(self):
        for value in ODD + GREAT + (0, [], ["0", ":"], Reading([])):
            if not isinstance(value, str):
                refuses(self, BadText(0, 0), Reading.read, value)


if __name__ == "__main__":
    unittest.main()
