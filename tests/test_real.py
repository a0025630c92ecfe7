import unittest

from ghostcords.errors import BadForm, BadLot, BadReading, BadTangle, Misfit
from ghostcords.forms import Form, form_of, places_of
from ghostcords.knit import crossings_of, knit
from ghostcords.names import readings
from ghostcords.readings import Reading
from ghostcords.real import Alike, Parted, Real, Unreal, alike, all_readings, real
from ghostcords.slides import put_in, slides, slid
from ghostcords.tangles import Tangle
from ghostcords.words import Word
from helpers import GREAT, ODD, all_lots, all_rows, random_tangle, refuses, seeded

LOT = (0, 1, 2, 3, 4)


def slow_parted(one, other):
    for cord, first, second in zip(one.lot, readings(one), readings(other)):
        for row in all_rows(first.lot):
            if first.count(row) != second.count(row):
                return (cord, row, first.count(row), second.count(row))
    return None


def slow_product(lot, told):
    product = Reading(lot)
    for cord, reading in reversed(list(zip(lot, told))):
        whole = reading.within(lot)
        product = product * ~whole * Reading(lot, [((cord,), 1)]) * whole
    return product


class AlikeTangles(unittest.TestCase):
    def test_alike_or_parted(self):
        chance = seeded(1)
        for lot in all_lots():
            if not lot:
                continue
            for _ in range(3):
                one, other = random_tangle(chance, lot, 12), random_tangle(chance, lot, 12)
                paper = alike(one, other)
                wanted = slow_parted(one, other)
                if wanted is None:
                    self.assertEqual(paper, Alike(form_of(other)))
                else:
                    self.assertEqual((paper, paper.parts), (Parted(*wanted), wanted))
                    self.assertNotEqual(form_of(one), form_of(other))
                    self.assertIs(type(paper), Parted)
                self.assertIs(bool(paper), form_of(one) == form_of(other))
                changed = knit(form_of(one)) if crossings_of(form_of(one)) <= 2000 else one
                for _ in range(8):
                    can = slides(changed)
                    changed = slid(changed, *chance.choice(can)) if can else changed
                    if len(lot) > 1 and len(changed) < 1900:
                        place = chance.randrange(len(lot) - 1)
                        changed = put_in(changed, chance.randrange(len(changed) + 1), place, 1)
                self.assertEqual(alike(other=changed, one=one), Alike(form_of(one)))

    def test_sixteen_crossings_alike_to_straight_cords(self):
        sixteen = Tangle.read("0 1 2 : +0 +0 +1 +1 +0 +0 -1 -1 -0 -0 +1 +1 -0 -0 -1 -1")
        straight = Tangle([0, 1, 2])
        self.assertEqual(alike(sixteen, straight), Alike(Form([0, 1, 2])))
        self.assertNotIn("undo", [word for word, _ in slides(sixteen)])
        self.assertEqual(alike(sixteen, straight).parts, (Form([0, 1, 2]),))

    def test_a_cord_cannot_be_doubled(self):
        sixteen = Tangle.read("0 1 2 : +0 +0 +1 +1 +0 +0 -1 -1 -0 -0 +1 +1 -0 -0 -1 -1")
        order, crossings = [0, 1, 2], []
        for place, sign in sixteen.crossings:
            shift = int(0 in order[:place])
            if order[place] == 0:
                crossings += [(place + 1, sign), (place, sign)]
            elif order[place + 1] == 0:
                crossings += [(place, sign), (place + 1, sign)]
            else:
                crossings.append((place + shift, sign))
            order[place:place + 2] = order[place + 1], order[place]
        doubled = Tangle([0, 1, 2, 3], crossings)
        last = readings(doubled)[3]
        self.assertNotEqual(last.leads, ())
        self.assertTrue(all(len(row) == 3 for row, _ in last.leads))
        self.assertFalse(alike(doubled, Tangle([0, 1, 2, 3])))
        for cord in (0, 1):
            self.assertTrue(alike(doubled.without(cord), Tangle(doubled.without(cord).lot)))

    def test_one_form_is_alike(self):
        chance = seeded(2)
        for lot in (LOT, (0, 1, 2)):
            tangle = random_tangle(chance, lot, 8)
            around = random_tangle(chance, lot, 8)
            self.assertTrue(alike(tangle * around * ~around, tangle))
            self.assertEqual(alike(Tangle(lot), Tangle(lot)).form, Form(lot))

    def test_refusals(self):
        tangle = Tangle([0, 1, 2])
        for value in ODD + GREAT + (0, "0 1 2 :", Form([0, 1, 2]), Word()):
            refuses(self, BadTangle("one"), alike, value, "x")
            refuses(self, BadTangle("other"), alike, tangle, value)
        for lot in ((0,), (0, 1), (0, 1, 3), (0, 1, 2, 3)):
            refuses(self, Misfit("lot"), alike, tangle, Tangle(lot))


class RealReadings(unittest.TestCase):
    def test_readings_of_tangles(self):
        chance = seeded(3)
        for lot in all_lots():
            if not lot:
                continue
            for many in (0, 3, 10, 60):
                tangle = random_tangle(chance, lot, many)
                paper = real(list(lot), list(readings(tangle)))
                self.assertEqual((paper, paper.form), (Real(form_of(tangle)), form_of(tangle)))
                self.assertIs(type(paper), Real)
                self.assertEqual(all_readings(form_of(tangle)), readings(tangle))

    def test_readings_of_any_form(self):
        chance = seeded(4)
        for lot in all_lots():
            for most in (0, 1, 10 ** 30):
                form = Form(lot, [(place, chance.randint(-most, most)) for place in places_of(lot)])
                told = all_readings(form=form)
                self.assertEqual([one.lot for one in told], [tuple(set(lot) - {cord}) for cord in lot])
                if lot:
                    self.assertEqual(real(lot=lot, readings=told), Real(form))
                for cord, one in zip(lot, told):
                    self.assertEqual(one.within(form.reading(cord).lot), form.reading(cord))
        self.assertEqual(all_readings(Form(())), ())

    def test_unreal(self):
        chance = seeded(5)
        found = 0
        for lot in all_lots():
            if len(lot) < 2:
                continue
            told = list(readings(random_tangle(chance, lot, 6)))
            at = chance.randrange(len(lot))
            row = chance.choice(all_rows(told[at].lot)[1:])
            row = tuple(sorted(row)) if row[0] != min(row) else row
            leads = dict(told[at].leads)
            leads[row] = leads.get(row, 0) + chance.choice((1, -1, 10 ** 30))
            told[at] = Reading(told[at].lot, list(leads.items()))
            product = slow_product(lot, told)
            wanted = None
            for other in all_rows(lot):
                bare = int(list(other) == sorted(other, reverse=True))
                if wanted is None and product.count(other) != bare:
                    wanted = Unreal(other, product.count(other), bare)
            paper = real(lot, tuple(told))
            self.assertIs(type(paper), Real if wanted is None else Unreal)
            if type(paper) is Unreal:
                found += 1
                self.assertEqual(paper.parts, wanted.parts)
                self.assertFalse(paper)
        self.assertGreater(found, 20)

    def test_one_row_of_all_four_others(self):
        told = list(readings(random_tangle(seeded(6), LOT, 12)))
        leads = dict(told[2].leads)
        leads[(0, 3, 1, 4)] = leads.get((0, 3, 1, 4), 0) + 1
        told[2] = Reading(told[2].lot, list(leads.items()))
        self.assertEqual(len(real(LOT, told).row), 5)

    def test_refusals(self):
        told = list(readings(Tangle([0, 1])))
        for value in ODD + GREAT + (0, (1, 0), ()):
            refuses(self, BadLot("lot"), real, value, "x")
        for value in ODD + GREAT + (0, [], told[:1], told + told[:1], [told[0], None], [None, told[1]], told[0], [1, 2],
                                    {0: told[0], 1: told[1]}, "ab"):
            refuses(self, BadReading("readings"), real, (0, 1), value)
        for value in (told[::-1], [told[0], Reading([])], [Reading([0, 1]), told[1]], [told[0], Reading([2])]):
            refuses(self, Misfit("lot"), real, [0, 1], value)
        for value in ODD + GREAT + (0, "0 1 :", Tangle([0]), told):
            refuses(self, BadForm("form"), all_readings, value)

    def test_cords_left_out(self):
        form = form_of(random_tangle(seeded(7), LOT, 25))
        for cord in LOT:
            rest = [other for other in LOT if other != cord]
            left = Form(rest, [(place, number) for place, number in form.numbers if cord not in (place[0], *place[1])])
            for other, told in zip(rest, all_readings(left)):
                whole = all_readings(form)[LOT.index(other)]
                self.assertEqual(told, whole.within(told.lot))


if __name__ == "__main__":
    unittest.main()
