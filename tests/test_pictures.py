import itertools
import unittest

from ghostcords.below import below, left_out, undoing
from ghostcords.check_pictures import shows_whole
from ghostcords.errors import BadForm, BadLot, BadNumber, BadPicture, BadTangle, Impossible
from ghostcords.forms import Form, form_of, places_of
from ghostcords.holds import is_held
from ghostcords.knit import crossings_of, knit
from ghostcords.pictures import missing_lots, pictures, seen_places, unseen_places
from ghostcords.real import alike
from ghostcords.tangles import Tangle
from ghostcords.whole import Torn, Whole, filled, told_of, whole
from helpers import GREAT, NO_INTEGERS, ODD, all_lots, lots_of, random_form, random_tangle, refuses, seeded
from helpers import shows_no_odd_value

LOT = (0, 1, 2, 3, 4)
LOTS = [lot for lot in all_lots() if len(lot) >= 2]


def minus(lot, cords):
    return tuple(cord for cord in lot if cord not in cords)


def small_form(chance, lot):
    """A form whose knit tangle has few crossings."""
    form = random_form(chance, lot, 1, 0.4)
    return form if crossings_of(form) <= 300 else Form(lot, form.numbers[:3])


def knit_pictures(form, many):
    """Tangles with the numbers of a form, one for each lot that is left out."""
    shown = []
    for cords in itertools.combinations(form.lot, many):
        rest = form
        for cord in cords:
            rest = left_out(rest, cord)
        shown.append(knit(rest))
    return shown


class Pictures(unittest.TestCase):
    def test_cords_left_out(self):
        chance = seeded(1)
        for lot in LOTS[::2]:
            tangle = random_tangle(chance, lot, 12)
            self.assertEqual(pictures(tangle), pictures(tangle=tangle, many=1))
            for many in range(1, len(lot)):
                shown = pictures(tangle, many)
                self.assertIs(type(shown), tuple)
                for cords, picture in zip(itertools.combinations(lot, many), shown, strict=True):
                    rest = tangle
                    for cord in cords:
                        rest = rest.without(cord)
                    self.assertEqual(picture, rest)

    def test_refusals(self):
        tangle = Tangle([0, 2, 3])
        for value in ODD + GREAT + (Form([0, 1]), tangle.crossings):
            refuses(self, BadTangle("tangle"), pictures, value, "x")
        for value in NO_INTEGERS + (0, 3, 4, -1, 10 ** 30):
            refuses(self, BadNumber("many"), pictures, tangle, value)
        for value in (-1, 0, 1, 2):
            refuses(self, BadNumber("many"), pictures, Tangle([2]), value)
        refuses(self, BadNumber("many"), pictures, Tangle([2]))

    def test_missing_lots_and_places(self):
        for lot in LOTS:
            for many in range(1, len(lot)):
                self.assertEqual(missing_lots(lot=list(lot), many=many), tuple(itertools.combinations(lot, many)))
                seen = tuple((cord, row) for cord, row in places_of(lot) if len({cord, *row}) <= len(lot) - many)
                self.assertEqual(seen_places(lot=list(lot), many=many), seen)
                unseen = tuple(place for place in places_of(lot) if place not in seen)
                self.assertEqual(unseen_places(lot=list(lot), many=many), unseen)
            self.assertEqual(len(unseen_places(lot, 1)), [1, 1, 2, 6][len(lot) - 2])

    def test_refusals_of_lots(self):
        for call in (missing_lots, seen_places, unseen_places):
            for value in ODD + GREAT + ((), [], (0,), (1, 0), (0, 0), {0, 1}):
                refuses(self, BadLot("lot"), call, value, "x")
            for value in NO_INTEGERS + (0, 3, 4, -1, 10 ** 30):
                refuses(self, BadNumber("many"), call, [0, 2, 3], value)
            refuses(self, BadNumber("many"), call, (0, 1), 2)


class Wholes(unittest.TestCase):
    def test_pictures_of_one_tangle(self):
        chance = seeded(2)
        for lot in LOTS[::2] + [LOT]:
            tangle, around = random_tangle(chance, lot, 9), random_tangle(chance, lot, 6)
            other = tangle * around * ~around
            for many in range(1, len(lot)):
                shown = list(pictures(tangle, many))
                shown[0] = pictures(other, many)[0]
                paper = whole(lot=list(lot), pictures=shown, many=many)
                self.assertEqual((type(paper), bool(paper), paper.word), (Whole, True, "whole"))
                self.assertEqual(paper.unseen, unseen_places(lot, many))
                known = dict(form_of(tangle).numbers)
                seen = Form(lot, [(place, known.get(place, 0)) for place in seen_places(lot, many)])
                self.assertEqual(paper.form, seen)
                hidden = [known.get(place, 0) for place in paper.unseen]
                self.assertEqual(filled(paper.form, hidden, many), form_of(tangle))
                self.assertIs(shows_whole(lot, tuple(shown), Whole(form_of(tangle), paper.unseen), many), True)

    def test_any_unseen_numbers(self):
        chance = seeded(3)
        for lot in ((0, 1), (0, 2, 3), (1, 2, 3, 4)):
            for many in range(1, len(lot)):
                form = small_form(chance, lot)
                shown = knit_pictures(form, many)
                paper = whole(lot, shown, many)
                for _ in range(2):
                    numbers = [chance.randint(-1, 1) for _ in paper.unseen]
                    tangle = knit(filled(form=paper.form, numbers=numbers, many=many))
                    for one, other in zip(pictures(tangle, many), shown, strict=True):
                        self.assertTrue(alike(one, other))

    def test_pictures_that_part(self):
        chance = seeded(4)
        found = set()
        for _ in range(60):
            lot = chance.choice([(0, 1, 2), (0, 1, 3, 4), LOT])
            many = chance.randint(1, len(lot) - 1)
            form = small_form(chance, lot)
            shown = knit_pictures(form, many)
            missing = missing_lots(lot, many)
            for _ in range(2):
                at = chance.randrange(len(shown))
                shown[at] = shown[at] * random_tangle(chance, shown[at].lot, 3)
            forms = {cords: form_of(picture) for cords, picture in zip(missing, shown)}
            wanted = [(one, other, *place, forms[one].number(*place), forms[other].number(*place))
                      for one, other in itertools.combinations(missing, 2)
                      for place in places_of(minus(lot, one + other))
                      if forms[one].number(*place) != forms[other].number(*place)]
            paper = whole(lot, shown, many)
            found.add((bool(paper), many))
            if wanted:
                self.assertEqual((type(paper), bool(paper), paper.parts), (Torn, False, wanted[0]))
                refuses(self, Impossible(paper), told_of, lot, shown, many)
                for parts in wanted:
                    self.assertIs(shows_whole(lot, shown, Torn(*parts), many), True)
                    one, other, cord, row, number, its = parts
                    self.assertIs(shows_whole(lot, shown, Torn(list(other), list(one), cord, list(row), its, number), many),
                                  True)
                    for wrong in (Torn(one, other, cord, row, its, number), Torn(other, one, cord, row, number, its),
                                  Torn(one, other, cord, row, number, number), Torn(one, one, cord, row, number, its)):
                        self.assertIs(shows_whole(lot, shown, wrong, many), False)
            else:
                self.assertIs(type(paper), Whole)
            self.assertIs(shows_whole(lot, shown, paper, many), True)
            if many > len(lot) - 3:
                self.assertTrue(paper)
        self.assertIn((False, 1), found)
        self.assertIn((False, 2), found)

    def test_every_place_at_which_pictures_agree_is_no_parting(self):
        lot = (0, 1, 2, 3)
        shown = [Tangle(minus(lot, [cord])) for cord in lot]
        shown[3] = Tangle([0, 1, 2], [(0, 1), (0, 1)])
        right = []
        for one, other in itertools.permutations(missing_lots(lot, 1), 2):
            for cord, row in places_of(lot):
                for number, its in ((0, 1), (1, 0), (0, 0), (1, 1)):
                    if shows_whole(lot, shown, Torn(one, other, cord, row, number, its)):
                        right.append((one, other, cord, row, number, its))
        self.assertEqual(right, [((2,), (3,), 1, (0,), 0, 1), ((3,), (2,), 1, (0,), 1, 0)])

    def test_below_undone_and_mirrored(self):
        chance = seeded(5)
        for lot in ((0, 1, 2), (0, 1, 3, 4)):
            for many in range(1, len(lot) - 1):
                tangles = [random_tangle(chance, lot, 9) for _ in range(2)]
                one, other = (pictures(tangle, many) for tangle in tangles)
                forms = [whole(lot, shown, many).form for shown in (one, other)]

                def seen(form):
                    return [form.number(*place) for place in seen_places(lot, many)]

                both = whole(lot, [first * second for first, second in zip(one, other)], many).form
                self.assertEqual(seen(both), seen(below(*forms)))
                self.assertEqual(seen(whole(lot, [~first for first in one], many).form), seen(undoing(forms[0])))
                turned = whole(lot, [first.mirrored() for first in one], many).form
                self.assertEqual(seen(turned), seen(form_of(tangles[0].mirrored())))

    def test_refusals(self):
        lot, shown = [0, 1, 2], [Tangle([1, 2]), Tangle([0, 2]), Tangle([0, 1])]
        calls = (whole, told_of, lambda lot, pictures, many=1: shows_whole(lot, pictures, None, many))
        for call in calls:
            for value in ODD + GREAT + ((), [0], (1, 0)):
                refuses(self, BadLot("lot"), call, value, "x", "x")
            for value in ODD + GREAT + (shown[0], shown[:2] + [None], [shown], {0: shown[0]}, [Form([1, 2])] * 3):
                if value != []:
                    refuses(self, BadPicture("pictures"), call, lot, value, "x")
            for value in NO_INTEGERS + (0, 3, -1, 10 ** 30):
                refuses(self, BadNumber("many"), call, lot, [Tangle([4])], value)
            refuses(self, BadNumber("many"), call, [0, 1], [], 2)
            for wrong in ([], [Tangle([4])], shown[:2], shown + shown[:1]):
                refuses(self, BadPicture("number"), call, lot, wrong)
            for wrong in (shown[::-1], shown[:2] + [Tangle([0, 1, 2])], [shown[0]] * 3, shown[:2] + [Tangle([0])],
                          shown[:2] + [Tangle([0, 3])]):
                refuses(self, BadPicture("lots"), call, lot, wrong)
            refuses(self, BadPicture("lots"), call, lot, shown, 2)
            refuses(self, BadPicture("number"), call, [0, 1, 2, 3], shown, 2)
        self.assertTrue(whole(lot, [Tangle([2]), Tangle([1]), Tangle([0])], 2))
        self.assertTrue(whole((3, 4), (Tangle([4]), Tangle([3]))))


class Filled(unittest.TestCase):
    def test_numbers(self):
        chance = seeded(6)
        for lot in LOTS:
            for many in range(1, len(lot)):
                form = random_form(chance, lot, 9)
                numbers = [chance.choice([0, 5, -10 ** 30]) for _ in unseen_places(lot, many)]
                made = filled(form, numbers, many)
                self.assertEqual([made.number(*place) for place in unseen_places(lot, many)], numbers)
                for place in seen_places(lot, many):
                    self.assertEqual(made.number(*place), form.number(*place))
        form = Form([0, 1], [((1, (0,)), 4)])
        self.assertEqual([filled(form, (0,)), filled(form, [7], 1)], [Form([0, 1]), Form([0, 1], [((1, (0,)), 7)])])

    def test_refusals(self):
        for value in ODD + GREAT + (Tangle([0, 1]), "0 1 :"):
            refuses(self, BadForm("form"), filled, value, "x", "x")
        for lot in ((), (2,)):
            refuses(self, BadForm("lot"), filled, Form(lot), "x", "x")
        form = Form([0, 1, 2])
        for value in NO_INTEGERS + (0, 3, -1):
            refuses(self, BadNumber("many"), filled, form, "x", value)
        for value in ODD + GREAT + ((), [], [1, 2], [True], [1.0], ["1"], 1, [[1]], {1: 1}):
            if not (isinstance(value, list) and value in ([5], [-1])):
                refuses(self, BadNumber("numbers"), filled, form, value)
        refuses(self, BadNumber("numbers"), filled, form, [1], 2)


class Told(unittest.TestCase):
    def test_held_and_free_in_all(self):
        chance = seeded(7)
        for lot in ((0, 1), (0, 1, 2), (0, 2, 3, 4), LOT):
            for many in range(1, len(lot)):
                for _ in range(3):
                    form = small_form(chance, lot)
                    shown = knit_pictures(form, many)
                    flat = whole(lot, shown, many)
                    some = [filled(flat.form, [number] * len(flat.unseen), many) for number in (0, 1)]
                    held = tuple(own for own in lots_of(lot, 2) if all(is_held(one, own) for one in some))
                    free = tuple(own for own in lots_of(lot, 2) if not any(is_held(one, own) for one in some))
                    self.assertEqual(told_of(lot=list(lot), pictures=tuple(shown), many=many), (held, free))

    def test_nothing_shown(self):
        self.assertEqual(told_of([0, 3], [Tangle([3]), Tangle([0])]), ((), ()))


class Shows(unittest.TestCase):
    def test_any_value(self):
        lot = (0, 1, 2, 3)
        shown = [Tangle(minus(lot, [cord])) for cord in lot]
        shows_no_odd_value(self, lambda value: shows_whole(lot, shown, value), Whole(Form(lot), unseen_places(lot, 1)))
        shown[3] = Tangle([0, 1, 2], [(0, 1), (0, 1)])
        shows_no_odd_value(self, lambda value: shows_whole(lot, shown, value), Torn((2,), (3,), 1, (0,), 0, 1))
        self.assertIs(shows_whole(lot, shown, Whole(Form(lot), unseen_places(lot, 1))), False)

    def test_wholes(self):
        chance = seeded(8)
        for lot in ((0, 1), (0, 1, 4), (0, 1, 2, 3)):
            for many in range(1, len(lot)):
                form = small_form(chance, lot)
                shown = knit_pictures(form, many)
                unseen = unseen_places(lot, many)
                for place in places_of(lot):
                    bent = Form(lot, [(own, form.number(*own) + (own == place)) for own in places_of(lot)])
                    self.assertIs(shows_whole(lot, shown, Whole(bent, unseen), many), place in unseen)
                wide = Form(LOT, form.numbers)
                for wrong in (Whole(wide, unseen), Whole(form, unseen[:-1]), Whole(form, unseen + unseen[:1]),
                              Whole(form, seen_places(lot, many)), Whole(form, places_of(lot) * 2)):
                    self.assertIs(shows_whole(lot=lot, pictures=shown, value=wrong, many=many), False)
                if len(unseen) > 1:
                    self.assertIs(shows_whole(lot, shown, Whole(form, unseen[::-1]), many), False)


if __name__ == "__main__":
    unittest.main()
