import unittest

from ghostcords.check_forms import shows_alike, shows_knit, shows_real
from ghostcords.errors import BadForm, BadLot, BadReading, BadTangle, Misfit
from ghostcords.forms import Form, form_of, places_of
from ghostcords.knit import crossings_of, knit
from ghostcords.names import reading, readings
from ghostcords.readings import Reading
from ghostcords.real import Alike, Parted, Real, Unreal, alike, real
from ghostcords.tangles import Tangle
from helpers import GREAT, ODD, all_lots, all_rows, random_form, random_tangle, refuses, seeded, shows_no_odd_value

LOT = (0, 1, 2, 3, 4)


def bare(row):
    return int(list(row) == sorted(row, reverse=True))


def product(lot, told):
    whole = Reading(lot)
    for cord, one in reversed(list(zip(lot, told))):
        own = one.within(lot)
        whole = whole * ~own * Reading(lot, [((cord,), 1)]) * own
    return whole


class ShowsAlike(unittest.TestCase):
    def test_all_places_that_differ(self):
        chance = seeded(1)
        for lot in ((0, 1), (0, 2, 4), (0, 1, 2, 3), LOT):
            one, other = random_tangle(chance, lot, 12), random_tangle(chance, lot, 12)
            for cord in lot:
                first, second = reading(one, cord), reading(other, cord)
                for row in all_rows(LOT)[::1 if len(lot) < 4 else 7]:
                    counts = first.count(row), second.count(row)
                    right = cord not in row and set(row) <= set(lot) and counts[0] != counts[1]
                    self.assertIs(shows_alike(one, other, Parted(cord, list(row), *counts)), right)
                    if right:
                        self.assertIs(shows_alike(one, other, Parted(cord, row, *counts[::-1])), False)
                        self.assertIs(shows_alike(one, other, Parted(cord, row, counts[0], counts[0])), False)
                        self.assertIs(shows_alike(other, one, Parted(cord, row, *counts)), False)
            self.assertIs(shows_alike(one, other, alike(one, other)), True)
            self.assertIs(shows_alike(one, other, Alike(form_of(one))), form_of(one) == form_of(other))

    def test_alike(self):
        chance = seeded(2)
        for lot in all_lots()[1:]:
            one, around = random_tangle(chance, lot, 9), random_tangle(chance, lot, 9)
            other = one * around * ~around
            self.assertIs(shows_alike(one=one, other=other, value=Alike(form_of(one))), True)
            form = random_form(chance, lot, 99)
            self.assertIs(shows_alike(one, other, Alike(form)), form == form_of(one))
            for wrong in (Alike(Form([4, 3, 2, 1, 0][:0])), Alike(None), Alike(one), Alike(str(form_of(one))),
                          Parted(lot[0], (), 1, 1), Parted(lot[0], lot[1:], 0, 0)):
                self.assertIs(shows_alike(one, other, wrong), False)

    def test_any_value(self):
        wound, straight = Tangle([0, 1, 2], [(1, -1), (0, 1), (0, 1), (1, 1)]), Tangle([0, 1, 2])
        shows_no_odd_value(self, lambda value: shows_alike(wound, straight, value), Parted(2, (0,), 1, 0))
        shows_no_odd_value(self, lambda value: shows_alike(wound, wound, value), Alike(form_of(wound)))
        for cord in (3, -1, 5, 10 ** 30):
            self.assertIs(shows_alike(wound, straight, Parted(cord, (0,), 1, 0)), False)

    def test_refusals(self):
        tangle = Tangle([0, 1, 2])
        for value in ODD + GREAT + (Form([0, 1, 2]),):
            refuses(self, BadTangle("one"), shows_alike, value, "x", None)
            refuses(self, BadTangle("other"), shows_alike, tangle, value, None)
        refuses(self, Misfit("lot"), shows_alike, tangle, Tangle([0, 1]), None)


class ShowsKnit(unittest.TestCase):
    def test_tangles(self):
        chance = seeded(3)
        for lot in all_lots()[1:]:
            form = random_form(chance, lot, 1, 0.4)
            if crossings_of(form) > 900:
                form = Form(lot)
            around = random_tangle(chance, lot, 8)
            self.assertIs(shows_knit(form, knit(form)), True)
            self.assertIs(shows_knit(form=form, value=around * ~around * knit(form)), True)
            self.assertIs(shows_knit(form, around * knit(form)), form_of(around) == Form(lot))
            self.assertIs(shows_knit(form, Tangle([cord for cord in (0, 1, 2, 3) if cord not in lot] or [0])), False)
            for value in ODD + GREAT + (form, str(knit(form)), knit(form).crossings):
                self.assertIs(shows_knit(form, value), False)

    def test_great_numbers_are_no_error(self):
        form = Form([0, 1], [((1, (0,)), 10 ** 25)])
        self.assertIs(shows_knit(form, Tangle([0, 1])), False)

    def test_refusals(self):
        for value in ODD + GREAT + (Form([]), Tangle([0])):
            refuses(self, BadForm("form"), shows_knit, value, Tangle([0]))


class ShowsReal(unittest.TestCase):
    def test_all_rows(self):
        chance = seeded(4)
        for lot in ((2,), (0, 1), (0, 1, 3), (0, 1, 2, 3), LOT):
            told = list(readings(random_tangle(chance, lot, 8)))
            paper = real(lot, told)
            self.assertIs(shows_real(lot, told, Real(paper.form)), True)
            self.assertIs(shows_real(lot=list(lot), readings=tuple(told), value=paper), True)
            form = random_form(chance, lot, 99)
            self.assertIs(shows_real(lot, told, Real(form)), form == paper.form)
            self.assertIs(shows_real(lot, told, Unreal(lot, bare(lot), bare(lot))), False)
            if len(lot) > 1:
                told[0] = told[0] * Reading(lot[1:], [(lot[1:2], 1)])
                whole = product(lot, told)
                for row in all_rows(LOT)[::1 if len(lot) < 4 else 7]:
                    right = set(row) <= set(lot) and whole.count(row) != bare(row)
                    self.assertIs(shows_real(lot, told, Unreal(row, whole.count(row), bare(row))), right)
                    self.assertIs(shows_real(lot, told, Unreal(row, whole.count(row) + 1, bare(row))), False)
                    self.assertIs(shows_real(lot, told, Unreal(row, whole.count(row), bare(row) + 1)), False)
                self.assertIs(shows_real(lot, told, paper), False)

    def test_any_value(self):
        both = [Reading((1,), []), Reading((0,), [((0,), 1)])]
        shows_no_odd_value(self, lambda value: shows_real([0, 1], both, value), Unreal((1, 0), 2, 1))
        whole = [Reading((1,), [((1,), 1)]), both[1]]
        shows_no_odd_value(self, lambda value: shows_real([0, 1], whole, value), Real(Form([0, 1], [((1, (0,)), 1)])))

    def test_one_row_of_five_cords(self):
        told = list(readings(Tangle(LOT)))
        told[2] = Reading(told[2].lot, [((0, 3, 1, 4), 1)])
        whole = product(LOT, told)
        rows = [row for row in all_rows(LOT) if whole.count(row) != bare(row)]
        self.assertTrue(rows and all(len(row) == 5 for row in rows))
        for row in rows:
            self.assertIs(shows_real(LOT, told, Unreal(row, whole.count(row), bare(row))), True)

    def test_refusals(self):
        told = list(readings(Tangle([0, 1])))
        for value in ODD + GREAT + ((1, 0), ()):
            refuses(self, BadLot("lot"), shows_real, value, "x", None)
        for value in ODD + GREAT + ([], told[:1], [told[0], None], told[0]):
            refuses(self, BadReading("readings"), shows_real, (0, 1), value, None)
        refuses(self, Misfit("lot"), shows_real, (0, 1), told[::-1], None)
        self.assertEqual(len(places_of([0, 1])), 1)


if __name__ == "__main__":
    unittest.main()
