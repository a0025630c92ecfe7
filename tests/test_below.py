import unittest

from ghostcords.below import NoRoot, Root, below, full_round, left_out, repeated, root_of, undoing, widened
from ghostcords.errors import BadForm, BadLot, BadNumber, Misfit, NoCord
from ghostcords.forms import Form, form_of, places_of
from ghostcords.knit import knit
from ghostcords.readings import Reading
from ghostcords.real import all_readings
from ghostcords.tangles import Tangle
from ghostcords.words import Word
from helpers import GREAT, NO_INTEGERS, ODD, all_lots, random_form, random_tangle, refuses, seeded

LOT = (0, 1, 2, 3, 4)
NUMBERS = (0, 1, -1, 2, 3, -5, 10 ** 20, -10 ** 20, 7 * 10 ** 30)


def by_names(one, other):
    """The form below one another, straight from the rule of names."""
    numbers = []
    for cord in one.lot:
        lesser = [own for own in one.lot if own < cord]
        whole = Form(lesser, [(place, number) for place, number in one.numbers if place[0] < cord])
        names = {}
        for own, seen in zip(lesser, all_readings(whole)):
            seen = seen.within(lesser)
            names[own] = ~seen * Reading(lesser, [((own,), 1)]) * seen
        seen = one.reading(cord)
        for letter, sign in word_of(other.reading(cord)):
            seen = seen * (names[letter] if sign == 1 else ~names[letter])
        numbers += [((cord, row), count) for row, count in seen.leads]
    return Form(one.lot, numbers)


def word_of(reading):
    from ghostcords.windings import word_for
    return word_for(reading).letters


def steps(form, many):
    """The form so many times by putting it below itself again and again."""
    total, one = Form(form.lot), form if many > 0 else undoing(form)
    for _ in range(abs(many)):
        total = below(total, one)
    return total


def slow_root(form, many):
    """The root, or the parts of the NoRoot, by the lengths of rows as the document tells."""
    rest = Form(form.lot)
    for length in range(1, len(form.lot)):
        times, found = repeated(rest, many), list(rest.numbers)
        for cord, row in [place for place in places_of(form.lot) if len(place[1]) == length]:
            left = form.number(cord, row) - times.number(cord, row)
            if left % many:
                return rest, cord, row
            found.append(((cord, row), left // many))
        rest = Form(form.lot, found)
    return rest


class Below(unittest.TestCase):
    def test_as_tangles_hang(self):
        chance = seeded(1)
        for lot in all_lots()[1:]:
            for _ in range(3):
                one, other = random_tangle(chance, lot, 18), random_tangle(chance, lot, 18)
                self.assertEqual(below(form_of(one), form_of(other)), form_of(one * other))
                self.assertEqual(below(other=form_of(one), one=form_of(other)), form_of(other * one))

    def test_by_the_rule_of_names(self):
        chance = seeded(2)
        for lot in all_lots():
            one, other = random_form(chance, lot, 4, 0.5), random_form(chance, lot, 2, 0.4)
            self.assertEqual(below(one, other), by_names(one, other))

    def test_three_whichever_two_are_first(self):
        chance = seeded(3)
        for lot in all_lots():
            for most in (3, 10 ** 30):
                one, two, three = [random_form(chance, lot, most) for _ in range(3)]
                self.assertEqual(below(below(one, two), three), below(one, below(two, three)))
                self.assertEqual([below(one, Form(lot)), below(Form(lot), one)], [one, one])

    def test_sums_at_short_rows(self):
        chance = seeded(4)
        one, other = random_form(chance, LOT, 50), random_form(chance, LOT, 50)
        both = below(one, other)
        for cord, row in places_of(LOT):
            if len(row) == 1:
                self.assertEqual(both.number(cord, row), one.number(cord, row) + other.number(cord, row))

    def test_refusals(self):
        form = Form([0, 1, 2])
        for value in ODD + GREAT + ("0 1 2 :", Tangle([0, 1, 2]), Word()):
            refuses(self, BadForm("one"), below, value, "x")
            refuses(self, BadForm("other"), below, form, value)
            refuses(self, BadForm("form"), undoing, value)
            refuses(self, BadForm("form"), repeated, value, "x")
            refuses(self, BadForm("form"), root_of, value, 0)
            refuses(self, BadForm("form"), left_out, value, 9)
            refuses(self, BadForm("form"), widened, value, "x")
        for lot in ((), (0, 1), (0, 1, 3), (0, 1, 2, 3)):
            refuses(self, Misfit("lot"), below, form, Form(lot))
        for value in NO_INTEGERS:
            refuses(self, BadNumber("many"), repeated, form, value)
            refuses(self, BadNumber("many"), root_of, form, value)
        refuses(self, BadNumber("many"), root_of, form, 0)


class Times(unittest.TestCase):
    def test_undoing_above_and_below(self):
        chance = seeded(5)
        for lot in all_lots():
            for most in (2, 10 ** 30):
                form = random_form(chance, lot, most)
                back = undoing(form=form)
                self.assertEqual([below(form, back), below(back, form)], [Form(lot), Form(lot)])
                self.assertEqual(undoing(back), form)
        tangle = random_tangle(chance, LOT, 25)
        self.assertEqual(undoing(form_of(tangle)), form_of(~tangle))

    def test_so_many_times(self):
        chance = seeded(6)
        for lot in all_lots():
            form = random_form(chance, lot, 3)
            for many in range(-6, 7):
                self.assertEqual(repeated(form, many), steps(form, many))
            for many in NUMBERS:
                self.assertEqual(below(repeated(form, many), form), repeated(form, many + 1))
                self.assertEqual(undoing(repeated(many=many, form=form)), repeated(form, -many))
                self.assertEqual(repeated(repeated(form, 3), many), repeated(form, 3 * many))
        tangle = random_tangle(chance, LOT, 10)
        self.assertEqual(repeated(form_of(tangle), 3), form_of(tangle * tangle * tangle))

    def test_polynomials(self):
        form = random_form(seeded(7), LOT, 9)
        values = [repeated(form, many) for many in range(7)]
        for cord, row in places_of(LOT):
            numbers = [one.number(cord, row) for one in values]
            for _ in range(len(row) + 1):
                numbers = [later - ahead for ahead, later in zip(numbers, numbers[1:])]
            self.assertEqual(set(numbers), {0})


class Roots(unittest.TestCase):
    def test_one_root(self):
        chance = seeded(8)
        for lot in all_lots():
            for many in (1, -1, 2, -2, 3, -4, 5, 24, 10 ** 20, -10 ** 30):
                form = random_form(chance, lot, 20)
                paper = root_of(repeated(form, many), many)
                self.assertIs(type(paper), Root)
                self.assertEqual((paper.root, paper.parts), (form, (form,)))
                self.assertEqual(root_of(many=many, form=repeated(form, 2 * many)).root, repeated(form, 2))

    def test_no_root(self):
        chance = seeded(9)
        missing = {}
        for lot in all_lots():
            for many in (2, 3, -2, 4, -6, 10 ** 20):
                if len(lot) < 2:
                    self.assertEqual(root_of(Form(lot), many), Root(Form(lot)))
                    continue
                form = repeated(random_form(chance, lot, 3), many)
                place = chance.choice(places_of(lot))
                told = dict(form.numbers)
                told[place] = told.get(place, 0) + 1
                for bent in (form, Form(lot, list(told.items())), random_form(chance, lot, 40)):
                    paper, wanted = root_of(bent, many), slow_root(bent, many)
                    if isinstance(wanted, Form):
                        self.assertEqual((type(paper), paper.root), (Root, wanted))
                    else:
                        self.assertEqual((type(paper), paper.parts), (NoRoot, wanted))
                        self.assertFalse(paper)
                        missing[len(paper.row)] = missing.get(len(paper.row), 0) + 1
        self.assertEqual(sorted(missing), [1, 2, 3, 4])

    def test_first_place_by_rows_then_cords(self):
        form = Form([0, 1, 2, 3], [((2, (0, 1)), 1), ((3, (0,)), 1), ((3, (1,)), 1)])
        self.assertEqual(root_of(form, 2).parts, (Form([0, 1, 2, 3]), 3, (0,)))
        form = Form([0, 1, 2, 3], [((2, (0, 1)), 1), ((3, (0,)), 4), ((3, (0, 1)), 1)])
        self.assertEqual(root_of(form, 2).parts, (Form([0, 1, 2, 3], [((3, (0,)), 2)]), 2, (0, 1)))

    def test_great_numbers(self):
        great = 10 ** 60 + 7
        form = Form(LOT, [(place, great + at) for at, place in enumerate(places_of(LOT))])
        for many in (great, -great, 2):
            self.assertEqual(root_of(repeated(form, many), many).root, form)
        self.assertEqual(root_of(form, great + 1).rest, Form(LOT))


class LeftOutAndWidened(unittest.TestCase):
    def test_left_out(self):
        chance = seeded(10)
        for lot in all_lots()[1:]:
            one, other = random_form(chance, lot, 5), random_form(chance, lot, 5)
            for cord in lot:
                rest = tuple(own for own in lot if own != cord)
                numbers = [(place, number) for place, number in one.numbers if cord not in (place[0], *place[1])]
                self.assertEqual(left_out(form=one, cord=cord), Form(rest, numbers))
                self.assertEqual(left_out(below(one, other), cord), below(left_out(one, cord), left_out(other, cord)))
                self.assertEqual(left_out(undoing(one), cord), undoing(left_out(one, cord)))
                self.assertEqual(left_out(repeated(one, 5), cord), repeated(left_out(one, cord), 5))
        tangle = random_tangle(chance, LOT, 30)
        self.assertEqual(left_out(form_of(tangle), 2), form_of(tangle.without(2)))
        self.assertEqual(left_out(Form([3]), 3), Form(()))
        for value in NO_INTEGERS + GREAT + (1, 3, -1, 5):
            refuses(self, NoCord(value), left_out, Form([0, 2, 4]), value)

    def test_widened(self):
        chance = seeded(11)
        for lot in all_lots():
            one, other = random_form(chance, lot), random_form(chance, lot)
            for wide in all_lots():
                if set(lot) <= set(wide):
                    self.assertEqual(widened(form=one, lot=list(wide)), Form(wide, one.numbers))
                    self.assertEqual(widened(below(one, other), wide), below(widened(one, wide), widened(other, wide)))
                    self.assertEqual(widened(repeated(one, -3), wide), repeated(widened(one, wide), -3))
                else:
                    refuses(self, Misfit("lot"), widened, one, wide)
        for value in ODD + GREAT + ((1, 0),):
            if value != []:
                refuses(self, BadLot("lot"), widened, Form([0]), value)

    def test_full_round(self):
        chance = seeded(12)
        for lot in all_lots():
            whole = full_round(lot=list(lot))
            self.assertEqual(whole, Form(lot, [(place, 1) for place in places_of(lot) if len(place[1]) == 1]))
            for most in (3, 10 ** 30):
                form = random_form(chance, lot, most)
                self.assertEqual(below(whole, form), below(form, whole))
                if len(lot) > 1:
                    last = Form(lot, [((lot[-1], (cord,)), 1) for cord in lot[:-1]])
                    first = Form(lot, [((cord, lot[:1]), 1) for cord in lot[1:]])
                    no_last = Form(lot, [(place, number) for place, number in form.numbers if place[0] != lot[-1]])
                    no_first = Form(lot, [(place, number) for place, number in form.numbers if lot[0] not in place[1]])
                    self.assertEqual(below(last, no_last), below(no_last, last))
                    self.assertEqual(below(first, no_first), below(no_first, first))
        for value in ODD + GREAT + ((1, 0), Form([0])):
            if value != []:
                refuses(self, BadLot("lot"), full_round, value)

    def test_full_round_turns_the_whole_bundle(self):
        for many in range(2, 6):
            turn = [(place, 1) for place in range(many - 1)] * many
            self.assertEqual(form_of(Tangle(LOT[:many], turn)), full_round(LOT[:many]))
        self.assertEqual(form_of(knit(full_round(LOT))), full_round(LOT))


if __name__ == "__main__":
    unittest.main()
