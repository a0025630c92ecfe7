import unittest

from ghostcords.below import NoRoot, Root, below, full_round, repeated, root_of, undoing, widened
from ghostcords.beside import Crosswise, Past, beside, go_past, lots_past, named
from ghostcords.check_below import shows_past, shows_root
from ghostcords.errors import BadForm, BadLot, BadNumber, Misfit
from ghostcords.forms import Form, form_of, places_of
from ghostcords.tangles import Tangle
from helpers import GREAT, NO_INTEGERS, ODD, all_lots, all_rows, random_form, random_tangle, refuses, seeded
from helpers import shows_no_odd_value

LOT = (0, 1, 2, 3, 4)


def slow_apart(one, other):
    """Whether two lots stand apart, by each three cords."""
    if set(one) & set(other):
        return False
    between = [any(low < cord < high for cord in first for low in second for high in second)
               for first, second in ((one, other), (other, one))]
    return not all(between)


class Beside(unittest.TestCase):
    def test_as_tangles_hang(self):
        chance = seeded(1)
        for lot in all_lots():
            for cut in range(len(lot) + 1):
                one, other = random_form(chance, lot[:cut], 10 ** 30), random_form(chance, lot[cut:], 9)
                both = beside(one=one, other=other)
                self.assertEqual((both.lot, both.numbers), (lot, one.numbers + other.numbers))
                self.assertEqual(undoing(both), beside(undoing(one), undoing(other)))
                self.assertEqual(repeated(both, 3), beside(repeated(one, 3), repeated(other, 3)))
                third, fourth = random_form(chance, lot[:cut]), random_form(chance, lot[cut:])
                self.assertEqual(below(both, beside(third, fourth)), beside(below(one, third), below(other, fourth)))
                if 0 < cut < len(lot):
                    left, right = random_tangle(chance, lot[:cut], 9), random_tangle(chance, lot[cut:], 9)
                    self.assertEqual(form_of(left.beside(right)), beside(form_of(left), form_of(right)))

    def test_refusals(self):
        for lot, its in (((0, 1), (1, 2)), ((0, 2), (1, 3)), ((3,), (0, 1)), ((0,), (0,)), ((0, 4), (1,))):
            refuses(self, Misfit("lot"), beside, Form(lot), Form(its))
        self.assertEqual([beside(Form([3]), Form([])).lot, beside(Form([]), Form([3])).lot, beside(Form([]), Form([])).lot],
                         [(3,), (3,), ()])
        for value in ODD + GREAT + ("0 1 :", Tangle([0])):
            for call in (beside, go_past, lambda one, other: shows_past(one, other, Past())):
                refuses(self, BadForm("one"), call, value, "x")
                refuses(self, BadForm("other"), call, Form([0, 1]), value)
            refuses(self, BadForm("form"), named, value)
        for lot in ((), (0,), (0, 2), (0, 1, 2)):
            refuses(self, Misfit("lot"), go_past, Form([0, 1]), Form(lot))
            refuses(self, Misfit("lot"), shows_past, Form([0, 1]), Form(lot), None)

    def test_named(self):
        chance = seeded(2)
        for lot in all_lots():
            for _ in range(5):
                form = random_form(chance, lot, 1, 0.15)
                wanted = {cord for (own, row), _ in form.numbers for cord in (own, *row)}
                self.assertEqual(named(form=form), tuple(sorted(wanted)))


class LotsPast(unittest.TestCase):
    def test_all_lots(self):
        for one in all_lots():
            for other in all_lots():
                self.assertIs(lots_past(list(one), other), slow_apart(one, other))
        self.assertIs(lots_past(one=(1, 2), other=[0, 3]), True)

    def test_refusals(self):
        for value in ODD + GREAT + ((1, 0), 0):
            if value != []:
                refuses(self, BadLot("one"), lots_past, value, "x")
                refuses(self, BadLot("other"), lots_past, (), value)

    def test_forms_of_lots_apart_go_past(self):
        chance = seeded(3)
        crossed = 0
        for one in all_lots():
            for other in all_lots():
                first, second = random_form(chance, one, 10 ** 25), random_form(chance, other, 5)
                if lots_past(one, other):
                    self.assertEqual(go_past(widened(first, LOT), widened(second, LOT)), Past())
                elif not set(one) & set(other):
                    crossed += not go_past(widened(first, LOT), widened(second, LOT))
        self.assertGreater(crossed, 0)


class GoPast(unittest.TestCase):
    def test_past_and_crosswise(self):
        chance = seeded(4)
        seen = {Past: 0, Crosswise: 0}
        for lot in all_lots():
            form = random_form(chance, lot, 3)
            others = [random_form(chance, lot, 2, 0.2) for _ in range(4)]
            for other in others + [full_round(lot), repeated(form, -3), Form(lot), form]:
                paper = go_past(one=form, other=other)
                above, under = below(form, other), below(other, form)
                differing = [(cord, row, above.number(cord, row), under.number(cord, row)) for cord, row in places_of(lot)
                             if above.number(cord, row) != under.number(cord, row)]
                seen[type(paper)] += 1
                self.assertEqual(paper, Crosswise(*differing[0]) if differing else Past())
                self.assertIs(bool(paper), above == under)
                self.assertIs(shows_past(form, other, Past()), not differing)
                self.assertIs(shows_past(form, other, paper), True)
                for cord in lot:
                    for row in all_rows(lot)[::1 if len(lot) < 4 else 29]:
                        for parts in ((1, 0), (0, 0)):
                            self.assertIs(shows_past(form, other, Crosswise(cord, row, *parts)),
                                          (cord, row, *parts) in differing)
                for parts in differing:
                    self.assertIs(shows_past(form, other, Crosswise(parts[0], list(parts[1]), *parts[2:])), True)
                    self.assertIs(shows_past(other, form, Crosswise(*parts)), False)
        self.assertGreater(min(seen.values()), 20)

    def test_any_value(self):
        low, high = Form([0, 1, 2], [((1, (0,)), 1)]), Form([0, 1, 2], [((2, (0,)), 1)])
        shows_no_odd_value(self, lambda value: shows_past(high, low, value), Crosswise(2, (0, 1), 0, 1))
        shows_no_odd_value(self, lambda value: shows_past(high, high, value), Past())


class ShowsRoot(unittest.TestCase):
    def test_roots(self):
        chance = seeded(5)
        for lot in all_lots():
            for many in (1, -1, 2, -3, 10 ** 20):
                form = random_form(chance, lot, 4)
                times = repeated(form, many)
                self.assertIs(shows_root(form=times, many=many, value=Root(form)), True)
                for wrong in (Root(times), Root(Form([])), Root(str(form)), Root(None), NoRoot(form, 1, (0,))):
                    right = isinstance(wrong, Root) and wrong.root == form
                    self.assertIs(shows_root(times, many, wrong), right)

    def test_each_place_that_stops(self):
        chance = seeded(6)
        found = 0
        for lot in all_lots():
            for many in (2, -3, 4):
                form = random_form(chance, lot, 9)
                paper = root_of(form, many)
                self.assertIs(shows_root(form, many, paper), True)
                if type(paper) is NoRoot:
                    times = repeated(paper.rest, many)
                    for cord, row in places_of(lot):
                        left = form.number(cord, row) - times.number(cord, row)
                        right = len(row) == len(paper.row) and left % many != 0
                        self.assertIs(shows_root(form, many, NoRoot(paper.rest, cord, list(row))), right)
                        found += right
                    self.assertIs(shows_root(form, many, NoRoot(form, paper.cord, paper.row)), False)
                    self.assertIs(shows_root(form, many, Root(paper.rest)), False)
        self.assertGreater(found, 30)

    def test_rests_that_are_none(self):
        form = Form([0, 1, 2, 3], [((2, (0,)), 2), ((2, (1,)), 2), ((3, (0, 1)), 1)])
        rest = Form([0, 1, 2, 3], [((2, (0,)), 1), ((2, (1,)), 1)])
        self.assertIs(shows_root(form, 2, NoRoot(rest, 3, (0, 1))), True)
        self.assertIs(shows_root(form, 2, NoRoot(rest, 2, (0, 1))), True)
        for wrong in (NoRoot(rest, 3, (0, 2)), NoRoot(rest, 3, (1, 0)), NoRoot(rest, 3, (0, 1, 2)), NoRoot(rest, 2, (0,)),
                      NoRoot(Form([0, 1, 2, 3]), 3, (0, 1)), NoRoot(Form([0, 1, 2], rest.numbers), 2, (0, 1)),
                      NoRoot(Form([0, 1, 2, 3], rest.numbers + (((3, (0, 1)), 1),)), 2, (0, 1)),
                      NoRoot(Form([0, 1, 2, 3], [((2, (0,)), 1), ((2, (1,)), 2)]), 3, (0, 1)),
                      NoRoot(widened(rest, LOT), 3, (0, 1)), NoRoot(rest, 3, ()), NoRoot(rest, 0, (1,))):
            self.assertIs(shows_root(form, 2, wrong), False)

    def test_any_value(self):
        odd = Form([0, 1, 2], [((2, (0,)), 2), ((2, (1,)), 2)])
        shows_no_odd_value(self, lambda value: shows_root(odd, 2, value), root_of(odd, 2))
        shows_no_odd_value(self, lambda value: shows_root(odd, 1, value), Root(odd))
        for value in ODD + GREAT + ("x", Tangle([0])):
            refuses(self, BadForm("form"), shows_root, value, 0, None)
        for value in NO_INTEGERS + (0,):
            refuses(self, BadNumber("many"), shows_root, odd, value, None)


if __name__ == "__main__":
    unittest.main()
