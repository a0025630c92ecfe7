import unittest

from ghostcords.check_times import shows_free, shows_times
from ghostcords.errors import BadLot, BadPattern, Misfit, NoCord
from ghostcords.forms import Form
from ghostcords.holds import is_held
from ghostcords.patterns import Pattern, counted
from ghostcords.polynomials import Binomial
from ghostcords.roots import common_roots
from ghostcords.weaves import Weave, number_of
from ghostcords.when import AllTimes, JustTimes, alike_for, free_for
from ghostcords.windings import leading_rows, winding
from ghostcords.words import Word
from helpers import GREAT, ODD, lots_of, random_form, random_word, refuses, seeded, shows_no_odd_value
from test_weaves import random_weave

LOT = (0, 1, 2, 3, 4)
GREAT_ROOT = 10 ** 30 + 7


def random_pattern(chance, blocks, lot, most=2):
    return Pattern([(random_word(chance, chance.randint(1, 4), lot), chance.randint(-most, most),
                     chance.randint(-most, most)) for _ in range(blocks)])


class AlikePatterns(unittest.TestCase):
    def check(self, one, other):
        paper = alike_for(one, other)
        lot = tuple(sorted(set(one.cords + other.cords)))
        told = {row: counted(one, row) - counted(other, row) for row in leading_rows(lot)}
        wanted = tuple((row, binomial.numbers) for row, binomial in told.items() if binomial.degree >= 0)
        if not wanted:
            self.assertEqual((type(paper), bool(paper), paper.parts), (AllTimes, True, ()))
        else:
            self.assertEqual((type(paper), bool(paper), paper.differences), (JustTimes, False, wanted))
            self.assertEqual(paper.times, common_roots(list(told.values())))
        for t in range(-6, 7):
            same = one.at(t, lot) == other.at(t, lot)
            self.assertIs(same, bool(paper) or t in paper.times)
        self.assertIs(shows_times(one, other, paper), True)
        return paper

    def test_random_patterns(self):
        chance = seeded(1)
        found = set()
        for _ in range(60):
            lot = chance.choice([(0,), (0, 1), (1, 4), (0, 2, 3)])
            one, other = (random_pattern(chance, chance.randint(0, 3), lot, 1) for _ in range(2))
            found.add(type(self.check(one, other)))
            self.check(one, one)
        self.assertEqual(len(found), 2)

    def test_all_no_and_some(self):
        empty, one, far = Pattern([]), Pattern([(Word([(0, 1)]), 1, 0)]), Pattern([(Word([(0, 1)]), 1, -GREAT_ROOT)])
        self.assertEqual(alike_for(one=empty, other=empty), AllTimes())
        self.assertEqual(alike_for(empty, Pattern([(Word([(3, 1)]), 0, 0)])), AllTimes())
        self.assertEqual(alike_for(one, empty).parts, ((0,), (((0,), (0, 1)),)))
        self.assertEqual(alike_for(far, empty).parts, ((GREAT_ROOT,), (((0,), (-GREAT_ROOT, 1)),)))
        self.assertEqual(alike_for(far, one).parts, ((), (((0,), (-GREAT_ROOT,)),)))
        self.assertEqual(alike_for(one, far).parts, ((), (((0,), (GREAT_ROOT,)),)))
        for roots in ((0, 5), (-3, GREAT_ROOT), (GREAT_ROOT, GREAT_ROOT + 1), (-GREAT_ROOT, 4)):
            first, second = Word([(0, 1)]), Word([(1, 1)])
            # The winding of two factors, undone in turn, counts their product.
            crossed = Pattern([(first, 1, -roots[0]), (second, 1, -roots[1]), (first, -1, roots[0]),
                               (second, -1, roots[1])])
            self.assertEqual(self.check(crossed, empty).times, tuple(sorted(roots)))
            self.assertEqual(self.check(empty, crossed).times, tuple(sorted(roots)))

    def test_cords_of_either(self):
        one, other = Pattern([(Word([(0, 1)]), 1, 0)]), Pattern([(Word([(4, 1)]), 1, 0)])
        self.assertEqual(self.check(one, other).differences, (((0,), (0, 1)), ((4,), (0, -1))))
        both = Pattern([(Word([(0, 1), (4, 1)]), 1, 0)])
        self.assertEqual(self.check(both, one).differences, (((4,), (0, 1)), ((0, 4), (0, 1, 1))))

    def test_alike_for_more_times_than_cords(self):
        chance = seeded(2)
        for _ in range(40):
            lot = chance.choice([(0, 1), (0, 1, 2)])
            one, other = random_pattern(chance, 2, lot, 1), random_pattern(chance, 2, lot, 1)
            paper = alike_for(one, other)
            if not paper:
                self.assertLessEqual(len(paper.times), len(lot))

    def test_blocks_of_five_cords(self):
        chance = seeded(3)
        one = Pattern([(random_word(chance, 12), chance.randint(-10 ** 30, 10 ** 30), 5) for _ in range(12)])
        paper = alike_for(one, Pattern([]))
        self.assertEqual([number for row, number in paper.differences if row == LOT], [counted(one, LOT).numbers])
        half = Pattern(one.blocks[:6])
        self.assertEqual(alike_for(half * ~half, Pattern([])), AllTimes())


class AlikeWeaves(unittest.TestCase):
    def check(self, one, other):
        paper = alike_for(one, other)
        wanted = []
        for cord in one.lot:
            for row in leading_rows([own for own in one.lot if own < cord]):
                binomial = number_of(one, cord, row) - number_of(other, cord, row)
                wanted += [((cord, row), binomial.numbers)] if binomial.degree >= 0 else []
        if not wanted:
            self.assertEqual((type(paper), paper.parts), (AllTimes, ()))
        else:
            self.assertEqual((type(paper), paper.differences), (JustTimes, tuple(wanted)))
        for t in range(-5, 6):
            self.assertIs(one.at(t) == other.at(t), bool(paper) or t in paper.times)
        self.assertIs(shows_times(one, other, paper), True)
        return paper

    def test_random_weaves(self):
        chance = seeded(4)
        for lot in ((), (3,), (0, 1), (0, 2, 4), (0, 1, 2, 3), LOT):
            for _ in range(5):
                one, other = random_weave(chance, lot, chance.randint(1, 3), 1), random_weave(chance, lot, 2, 1)
                paper = self.check(one, other)
                self.assertEqual(self.check(one, one), AllTimes())
                if not paper:
                    self.assertLess(len(paper.times), max(len(lot), 1))

    def test_all_no_and_some(self):
        turn = Form([0, 1], [((1, (0,)), 1)])
        far = Weave([(turn, 1, -GREAT_ROOT)])
        self.assertEqual(alike_for(far, Weave([(turn, 0, 0)])).parts, ((GREAT_ROOT,), (((1, (0,)), (-GREAT_ROOT, 1)),)))
        self.assertEqual(alike_for(far, Weave([(turn, 1, 0)])).times, ())
        self.assertEqual(alike_for(far, Weave([(turn, 1, 0), (turn, 0, -GREAT_ROOT)])), AllTimes())
        one, two = Form([0, 1, 2], [((2, (0,)), 1)]), Form([0, 1, 2], [((2, (1,)), 1)])
        for roots in ((0, 5), (-3, GREAT_ROOT), (GREAT_ROOT, GREAT_ROOT + 1)):
            crossed = Weave([(one, 1, -roots[0]), (two, 1, -roots[1]), (one, -1, roots[0]), (two, -1, roots[1])])
            straight = Weave([(Form([0, 1, 2]), 7, 7)])
            self.assertEqual(self.check(crossed, straight).times, tuple(sorted(roots)))
            self.assertEqual(free_for(crossed, (0, 1, 2)).times, tuple(sorted(roots)))
            self.assertEqual(free_for(crossed, (0, 2)), AllTimes())

    def test_a_form_so_many_times_is_straight_for_none_alone(self):
        chance = seeded(6)
        for lot in ((0, 1), (0, 1, 2), (0, 1, 3, 4), LOT):
            form = random_form(chance, lot, 2, 0.5)
            paper = alike_for(Weave([(form, 1, 0)]), Weave([(Form(lot), 1, 0)]))
            self.assertEqual(paper.times if form.numbers else paper, (0,) if form.numbers else AllTimes())
            self.assertEqual(alike_for(Weave([(Form(lot), 3, 1)]), Weave([(Form(lot), 1, 0)])), AllTimes())

    def test_refusals(self):
        weave, pattern = Weave([(Form([0, 1]), 1, 0)]), Pattern([])
        for value in ODD + GREAT + (0, Form([0, 1]), Word(), Binomial([1]), (pattern,)):
            for call in (alike_for, lambda one, other: shows_times(one, other, None)):
                refuses(self, BadPattern("one"), call, value, "x")
                refuses(self, BadPattern("other"), call, pattern, value)
                refuses(self, BadPattern("other"), call, weave, value)
        for call in (alike_for, lambda one, other: shows_times(one, other, None)):
            refuses(self, BadPattern("other"), call, pattern, weave)
            refuses(self, BadPattern("other"), call, weave, pattern)
            refuses(self, Misfit("lot"), call, weave, Weave([(Form([0, 2]), 1, 0)]))


class FreeLots(unittest.TestCase):
    def test_all_lots(self):
        chance = seeded(5)
        for lot in ((0, 1), (1, 2, 4), (0, 1, 2, 3), LOT):
            for _ in range(4):
                weave = Weave([(random_form(chance, lot, 1, 0.4), chance.randint(-1, 1), chance.randint(-1, 1))
                               for _ in range(2)])
                forms = {t: weave.at(t) for t in range(-4, 5)}
                for own in lots_of(lot, 2):
                    paper = free_for(weave=weave, lot=list(own))
                    for t, form in forms.items():
                        self.assertIs(not is_held(form, own), bool(paper) or t in paper.times)
                    self.assertIs(type(paper), AllTimes if paper else JustTimes)
                    self.assertIs(shows_free(weave, own, paper), True)
                    if not paper:
                        for (cord, row), numbers in paper.differences:
                            self.assertTrue({cord, *row} <= set(own))
                            self.assertEqual(numbers, number_of(weave, cord, row).numbers)

    def test_refusals(self):
        weave = Weave([(Form([0, 1, 3]), 1, 0)])
        for call in (free_for, lambda weave, lot: shows_free(weave, lot, None)):
            for value in ODD + GREAT + (0, Form([0, 1]), Pattern([])):
                refuses(self, BadPattern("weave"), call, value, "x")
            for value in ODD + GREAT + ((), [], (0,), (1, 0), (0, 1, 2, 3, 4, 5), (2,), (0, True)):
                refuses(self, BadLot("lot"), call, weave, value)
            refuses(self, NoCord(2), call, weave, (0, 2, 4))
            refuses(self, NoCord(4), call, weave, [0, 1, 4])


class Shows(unittest.TestCase):
    def test_any_value(self):
        empty, one = Pattern([]), Pattern([(Word([(0, 1)]), 1, 0), (Word([(1, 1)]), 1, -1)])
        wanted = JustTimes((), (((0,), (0, 1)), ((1,), (-1, 1)), ((0, 1), (0, 0, 2))))
        self.assertEqual(alike_for(one, empty), wanted)
        shows_no_odd_value(self, lambda value: shows_times(one, empty, value), wanted)
        shows_no_odd_value(self, lambda value: shows_times(one, one, value), AllTimes())
        turn = Form([0, 1, 2], [((2, (0, 1)), 1)])
        weave = Weave([(turn, 1, -1)])
        wanted = JustTimes((1,), (((2, (0, 1)), (-1, 1)),))
        shows_no_odd_value(self, lambda value: shows_times(weave, Weave([(turn, 0, 0)]), value), wanted)
        shows_no_odd_value(self, lambda value: shows_free(weave, (0, 1, 2), value), wanted)
        shows_no_odd_value(self, lambda value: shows_free(weave, [0, 1], value), AllTimes())
        for wrong in (JustTimes((), wanted.differences), JustTimes((1, 1), wanted.differences), JustTimes((1,), ()),
                      JustTimes((1,), (((2, (0, 1)), (1, -1)),)), AllTimes(), JustTimes((1,), wanted.differences * 2),
                      JustTimes((1,), (((2, (0, 1)), (-1, 1, 0)),))):
            self.assertIs(shows_free(weave, (0, 1, 2), wrong), False)
        self.assertIs(shows_free(weave=weave, lot=(0, 2), value=JustTimes((), ())), False)
        self.assertIs(shows_times(one=one, other=one, value=AllTimes()), True)


if __name__ == "__main__":
    unittest.main()
