import unittest

from ghostcords.errors import BadForm, BadLot, BadRow, BadTangle, BadText, NoCord, Twice
from ghostcords.forms import Form, form_of, places_of
from ghostcords.names import reading
from ghostcords.readings import Reading
from ghostcords.tangles import Tangle
from ghostcords.words import Word
from helpers import GREAT, NO_INTEGERS, ODD, all_lots, all_rows, random_tangle, refuses, seeded

LOT = (0, 1, 2, 3, 4)


def slow_places(lot):
    return [(cord, row) for cord in lot for row in all_rows([other for other in lot if other < cord])
            if row and row[0] == min(row)]


def random_form(chance, lot, most=10):
    return Form(lot, [(place, chance.randint(-most, most)) for place in places_of(lot) if chance.random() < 0.7])


class Forms(unittest.TestCase):
    def test_attributes(self):
        numbers = [[[2, [0, 1]], -1], ((1, (0,)), 10 ** 25), ([2, (1,)], 0)]
        form = Form(lot=[0, 1, 2], numbers=numbers)
        wanted = (((1, (0,)), 10 ** 25), ((2, (0, 1)), -1))
        self.assertEqual((form.lot, form.numbers), ((0, 1, 2), wanted))
        numbers[0][0][1].append(3)
        numbers[1] = None
        self.assertEqual(form.numbers, wanted)
        self.assertEqual([Form(()).lot, Form([]).numbers, Form([3]).numbers], [(), (), ()])

    def test_places(self):
        for lot in all_lots():
            self.assertEqual(places_of(list(lot)), tuple(slow_places(lot)))
        self.assertEqual([len(places_of(lot=LOT[:many])) for many in range(6)], [0, 0, 1, 4, 12, 36])
        for value in ODD + GREAT + (0, (1, 0), Form([])):
            if value != []:
                refuses(self, BadLot("lot"), places_of, value)

    def test_refusals(self):
        for value in ODD + GREAT + (0, (1, 0), Word()):
            if value != []:
                refuses(self, BadForm("lot"), Form, value, "x")
        for value in ODD + GREAT + (0, [0], [((1, (0,)), 1, 1)], [((1, (0,)), True)], [((1, (0,)), 1.0)], [((1, ()), 1)],
                                    [((1, (1,)), 1)], [((0, (1,)), 1)], [((2, (1, 0)), 1)], [((3, (0,)), 1)], [((1, 0), 1)],
                                    [((True, (0,)), 1)], [((2, (0, True)), 1)], [((1, (0,), 1), 1)], [(1, (0,), 1)],
                                    {(1, (0,)): 1}, [((2, (0, 0)), 1)], [((2, (0, 3)), 1)], [((), 1)], ["ab"],
                                    [((1, (0,)), 1), None]):
            if value != []:
                refuses(self, BadForm("numbers"), Form, (0, 1, 2), value)
        refuses(self, BadForm("numbers"), Form, [0], [((0, (0,)), 1)])
        pair = [[2, [0, 1]], 0]
        refuses(self, Twice((2, (0, 1))), Form, [0, 1, 2], [pair, [[1, [0]], 1], ((2, (0, 1)), 5), ((1, (0,)), 1)])
        refuses(self, BadForm("numbers"), Form, [0, 1, 2], [pair, pair, 0])

    def test_number_and_reading(self):
        chance = seeded(1)
        for lot in all_lots():
            numbers = {place: chance.randint(-9, 9) for place in slow_places(lot)}
            form = Form(lot, list(numbers.items()))
            for cord in lot:
                lesser = tuple(other for other in lot if other < cord)
                leads = [(row, number) for (other, row), number in numbers.items() if other == cord]
                self.assertEqual(form.reading(cord), Reading(lesser, leads))
                self.assertEqual(form.reading(cord=cord).lot, lesser)
                for row in all_rows(LOT):
                    if (cord, row) in numbers:
                        self.assertEqual(form.number(row=list(row), cord=cord), numbers[cord, row])
                    else:
                        refuses(self, BadRow("row"), form.number, cord, row)
            for value in NO_INTEGERS + GREAT + (-1, 5) + tuple(set(range(5)) - set(lot)):
                refuses(self, NoCord(value), form.number, value, "x")
                refuses(self, NoCord(value), form.reading, value)
        for value in ODD + GREAT + (0, (), (1, 0), (2,)):
            refuses(self, BadRow("row"), Form([0, 1, 2]).number, 2, value)

    def test_equal(self):
        form = Form([0, 1], [((1, (0,)), 1)])
        for other in (Form([0, 2], [((2, (0,)), 1)]), Form([0, 1]), Form([0, 1, 2], [((1, (0,)), 1)]), None, str(form),
                      Reading([0, 1])):
            self.assertIs(form == other, False)
            self.assertIs(form != other, True)
        self.assertIs(form != Form((0, 1), [[[1, [0]], 1]]), False)

    def test_form_of(self):
        chance = seeded(2)
        for lot in all_lots():
            if lot:
                tangle = random_tangle(chance, lot, 30)
                form = form_of(tangle)
                self.assertEqual(form.lot, lot)
                for cord, row in slow_places(lot):
                    self.assertEqual(form.number(cord, row), reading(tangle, cord).count(row))
                self.assertEqual(form_of(tangle=tangle * ~tangle), Form(lot))
        self.assertEqual(len(form_of(random_tangle(chance, LOT, 108)).lot), 5)
        for value in ODD + GREAT + (0, "0 1 :", Form([0, 1]), Word()):
            refuses(self, BadTangle("tangle"), form_of, value)


class Texts(unittest.TestCase):
    def test_there_and_back(self):
        chance = seeded(3)
        for lot in all_lots():
            for most in (0, 1, 10 ** 25, 10 ** 60 - 1):
                form = random_form(chance, lot, most)
                self.assertEqual(Form.read(str(form)), form)
        self.assertEqual([str(Form(())), str(Form([2])), Form.read(text=":").lot], [":", "2 :", ()])

    def test_words_that_cannot_stand(self):
        for text, word in (("", 0), ("0", 1), ("5 :", 0), ("1 0 :", 1), ("0 : ", 2), ("0 : 0", 2), ("0 1 : 0", 3),
                           ("0 1 : 1", 4), ("0 1 : 1 =", 4), ("0 1 : 1 1", 4), ("0 1 : 1 0", 5), ("0 1 : 1 0 =", 6),
                           ("0 1 : 1 0 = 0", 6), ("0 1 : 1 0 = -0", 6), ("0 1 : 1 0 = 1 /", 7), ("0 1 : 1 0 = 1 2", 7),
                           ("0 1 2 : 2 1 0", 5 + 1), ("0 1 2 : 2 0 0", 6), ("0 1 2 : 2 0 = 1 / 2 0 = 1", 11),
                           ("0 1 2 : 2 0 = 1 / 1", 9), ("0 1 2 : 2 0 = 1 / 2 0 1 = 2 /", 14), ("0 1 2 : 1 0 = 1 /", 9),
                           ("0 1 2 : 2 0 1 = 1", None), ("0 1 : 1 0 = " + "1" * 61, 6), ("0 1 : 1 0 = 1 ", 7),
                           (": ", 1), (": 0", 1), ("0 1 : 1 0 == 1", 5), ("0 1 : 1 0 = +1", 6), (" :", 0), ("0 1 :  1", 3),
                           ("0 1 2 : 2 0 = 1 / 2 1 = x", 12), ("0 1 2 3 4 : 4 0 1 2 3 = 1 / 4 0 1 3 2 = 1 / 4 0 1", 24)):
            if word is None:
                self.assertEqual(str(Form.read(text)), text)
            else:
                refuses(self, BadText(0, word), Form.read, text)

    def test_bent_at_any_word(self):
        text = "0 1 3 : 1 0 = 12 / 3 1 = -1 / 3 0 1 = 4"
        self.assertEqual(str(Form.read(text)), text)
        words = text.split(" ")
        for at in range(len(words)):
            for bad in ("", "x", "+1", "01", "-0", "5x", ":0", "=="):
                refuses(self, BadText(0, at), Form.read, " ".join(words[:at] + [bad] + words[at + 1:]))
            if words[:at] and not (words[at] == "/" or at == 4):
                refuses(self, BadText(0, at), Form.read, " ".join(words[:at]))
        refuses(self, BadText(0, len(words)), Form.read, text + " /")

    def test_no_strings(self):
        for value in ODD + GREAT + (0, ["0", ":"], Form([0])):
            if not isinstance(value, str):
                refuses(self, BadText(0, 0), Form.read, value)


if __name__ == "__main__":
    unittest.main()
