import unittest

from ghostcords.below import below, left_out, undoing
from ghostcords.errors import BadNumber, BadPattern, BadRow, Misfit, NoCord, TooMany
from ghostcords.forms import Form, places_of
from ghostcords.patterns import Pattern
from ghostcords.polynomials import Binomial
from ghostcords.weaves import Weave, number_of
from ghostcords.words import Word
from helpers import GREAT, NO_INTEGERS, ODD, all_lots, all_rows, random_form, refuses, seeded

LOT = (0, 1, 2, 3, 4)


def random_weave(chance, lot, blocks, most=2):
    return Weave([(random_form(chance, lot, 2), chance.randint(-most, most), chance.randint(-most, most))
                  for _ in range(blocks)])


def slow_form(weave, t):
    """The form at t, copy by copy."""
    form = Form(weave.lot)
    for block, u, v in weave.blocks:
        for _ in range(abs(u * t + v)):
            form = below(form, block if u * t + v > 0 else undoing(block))
    return form


class Weaves(unittest.TestCase):
    def test_attributes(self):
        form, great = Form([1, 3], [((3, (1,)), 2)]), 10 ** 30
        blocks = [[form, 1, 0], (Form([1, 3]), -great, great)]
        weave = Weave(blocks=blocks)
        blocks[0][1] = 9
        blocks.pop()
        self.assertEqual(weave.blocks, ((form, 1, 0), (Form([1, 3]), -great, great)))
        self.assertEqual((weave.lot, len(weave)), ((1, 3), 2))
        self.assertEqual([type(weave.blocks), type(weave.blocks[0]), type(weave.lot)], [tuple] * 3)
        self.assertEqual([len(Weave([(form, 1, 0)] * many)) for many in (1, 6)], [1, 6])
        self.assertEqual(Weave([(Form([]), 1, 2)]).at(5), Form([]))

    def test_refusals(self):
        form = Form([0, 1])
        block = (form, 1, 0)
        for value in ODD + GREAT + ((), [], 0, [form], [(form, 1)], [(form, 1, 2, 3)], [(form, True, 0)], {0: block},
                                    [(form, 1, 1.0)], [("0 1 :", 1, 0)], [block, None], [(1, 0, form)], form,
                                    [(Word(), 1, 0)], Weave([block]), Pattern([]), [[form, None, 0]]):
            refuses(self, BadPattern("blocks"), Weave, value)
        refuses(self, Misfit("lot"), Weave, [block] * 6 + [(Form([0, 2]), 1, 0)])
        refuses(self, Misfit("lot"), Weave, [(Form([]), 1, 0), block])
        refuses(self, TooMany("blocks", 6), Weave, [block] * 7)
        refuses(self, BadPattern("blocks"), Weave, [block] * 6 + [(Form([0, 2]), 1, 0), 5])
        weave = Weave([block])
        for value in ODD + GREAT + (0, (block,), form, Pattern([]), Binomial([1])):
            refuses(self, BadPattern("other"), lambda value: weave * value, value)
            refuses(self, BadPattern("weave"), number_of, value, "x", "x")
        for value in NO_INTEGERS:
            refuses(self, BadNumber("t"), weave.at, value)
            refuses(self, BadNumber("u"), weave.put, value, "x")
            refuses(self, BadNumber("v"), weave.put, 0, value)
        refuses(self, Misfit("lot"), lambda: Weave([block] * 6) * Weave([(Form([0]), 1, 0)]))
        refuses(self, TooMany("blocks", 6), lambda: Weave([block] * 3) * Weave([block] * 4))

    def test_places_that_are_none(self):
        weave = Weave([(Form([0, 1, 3]), 1, 0)])
        for value in ODD + GREAT + (2, 4, -1, 5, (0,)):
            if value != 1 or value is True:
                refuses(self, NoCord(value), number_of, weave, value, "x")
        for cord, row in ((0, ()), (0, (0,)), (0, (1,)), (1, ()), (1, (1,)), (1, (3,)), (3, (1, 0)), (3, (2,)), (3, (3,)),
                          (3, (0, 2)), (3, (0, 1, 3)), (1, (0, 0))):
            refuses(self, BadRow("row"), number_of, weave, cord, row)
        for value in ODD + GREAT:
            if value != [0]:
                refuses(self, BadRow("row"), number_of, weave, 3, value)
        self.assertEqual(number_of(weave=weave, cord=3, row=[0, 1]), Binomial([]))

    def test_forms_below_one_another(self):
        chance = seeded(1)
        for lot in all_lots()[::3] + [LOT]:
            for blocks in (1, 3, 6):
                weave = random_weave(chance, lot, blocks, 2 if len(lot) < 5 else 1)
                for t in (-2, -1, 0, 1, 3):
                    self.assertEqual(weave.at(t=t), slow_form(weave, t))

    def test_below_undone_and_put(self):
        chance = seeded(2)
        for lot in ((), (2,), (0, 1), (0, 2, 4), (0, 1, 2, 3), LOT):
            one, other = random_weave(chance, lot, 2), random_weave(chance, lot, 3)
            u, v = chance.randint(-3, 3), chance.randint(-3, 3)
            for t in (-10 ** 25, -1, 0, 2, 10 ** 25):
                self.assertEqual((one * other).at(t), below(one.at(t), other.at(t)))
                self.assertEqual((~one).at(t), undoing(one.at(t)))
                self.assertEqual(one.put(u=u, v=v).at(t), one.at(u * t + v))
            self.assertEqual((one * other).blocks, one.blocks + other.blocks)
        weave = Weave([(one.blocks[0][0], 2, 3), (one.blocks[1][0], -1, 10 ** 25)])
        self.assertEqual((~weave).blocks, ((one.blocks[1][0], 1, -10 ** 25), (one.blocks[0][0], -2, -3)))
        self.assertEqual(weave.put(10 ** 20, -5).blocks[0], (one.blocks[0][0], 2 * 10 ** 20, -7))
        self.assertEqual(len(Weave(weave.blocks * 2) * weave), 6)

    def test_equal(self):
        one = Weave([(Form([0, 1], [((1, (0,)), 1)]), 1, 0)])
        self.assertTrue(one == Weave([[Form([0, 1], [[[1, [0]], 1]]), 1, 0]]) and not one != Weave(one.blocks))
        for other in (Weave([(Form([0, 1]), 1, 0)]), Weave([(one.blocks[0][0], 1, 1)]), one * one, one.blocks, None,
                      Pattern([])):
            self.assertIs(one == other, False)
            self.assertIs(one != other, True)
        number_of(one, 1, (0,))
        self.assertEqual(one, Weave(one.blocks))

    def test_numbers_as_polynomials(self):
        chance = seeded(3)
        for lot in all_lots()[::2]:
            for blocks in (1, 2, 6):
                weave = random_weave(chance, lot, blocks, 5)
                forms = {t: weave.at(t) for t in (-7, -1, 0, 1, 4, 10 ** 25)}
                for cord, row in places_of(lot):
                    binomial = number_of(weave, cord, list(row))
                    self.assertLessEqual(binomial.degree, len(row))
                    for t, form in forms.items():
                        self.assertEqual(binomial.at(t), form.number(cord, row))

    def test_only_places_have_numbers(self):
        weave = random_weave(seeded(4), (0, 2, 3), 2)
        known = set(places_of((0, 2, 3)))
        for cord in (0, 2, 3):
            for row in all_rows((0, 2, 3)):
                if (cord, row) not in known:
                    refuses(self, BadRow("row"), number_of, weave, cord, row)

    def test_a_cord_left_out(self):
        chance = seeded(5)
        weave = random_weave(chance, (0, 1, 2, 3), 3)
        for cord in (0, 1, 2, 3):
            rest = Weave([(left_out(form, cord), u, v) for form, u, v in weave.blocks])
            for t in (-3, 0, 2, 10 ** 25):
                self.assertEqual(rest.at(t), left_out(weave.at(t), cord))

    def test_the_example_of_the_desk(self):
        first, second = Form([0, 1, 2], [((2, (0,)), 1)]), Form([0, 1, 2], [((2, (1,)), 1)])
        apart, both = Weave([(first, 1, 0), (second, 1, 0)]), Weave([(below(first, second), 1, 0)])
        self.assertEqual(number_of(apart, 2, (0, 1)).numbers, (0, 1, 2))
        self.assertEqual(number_of(both, 2, (0, 1)).numbers, (0, 1, 1))


if __name__ == "__main__":
    unittest.main()
