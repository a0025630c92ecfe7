import itertools
import unittest

from ghostcords.below import below, left_out, repeated, undoing, widened
from ghostcords.beside import beside
from ghostcords.cuts import Cheapest, Cut, cheapest_cut, fewest_cut, is_cut, least_cuts
from ghostcords.errors import BadFamily, BadForm, BadLot, BadNumber, BadText, Misfit, NoCord
from ghostcords.families import Family, both, families, family_of, form_for, joined
from ghostcords.forms import Form, form_of, places_of
from ghostcords.holds import held, is_held, least_held, loose, spare
from ghostcords.real import alike
from ghostcords.tangles import Tangle
from helpers import GREAT, NO_INTEGERS, ODD, all_lots, lots_of, random_form, random_tangle, refuses, seeded

LOT = (0, 1, 2, 3, 4)


def slow_held(form):
    """The held lots of a form, by leaving cords out."""
    found = []
    for lot in lots_of(form.lot, 2):
        rest = form
        for cord in form.lot:
            rest = rest if cord in lot else left_out(rest, cord)
        if rest.numbers:
            found.append(lot)
    return tuple(found)


def least_of(lots):
    return tuple(lot for lot in lots if not any(set(other) < set(lot) for other in lots))


def random_family(chance, lot):
    lots = lots_of(lot, 2)
    return Family(lot, least_of(sorted(chance.sample(lots, chance.randint(0, min(6, len(lots)))), key=lots.index)))


def antichains(many):
    """All families of so many cords as tuples of lots, in the order told, straight from the definition."""
    lots = lots_of(tuple(range(many)), 2)
    found = [own for size in range(len(lots) + 1) for own in itertools.combinations(lots, size)
             if not any(set(one) < set(other) for one in own for other in own)]
    return sorted(found, key=lambda own: (len(own), [lots.index(lot) for lot in own]))


class Holds(unittest.TestCase):
    def test_by_leaving_out(self):
        chance = seeded(1)
        for lot in all_lots():
            for likely in (0, 0.1, 0.3, 0.8):
                form = random_form(chance, lot, 10 ** 20, likely)
                wanted = slow_held(form)
                self.assertEqual(held(form=form), wanted)
                self.assertEqual(least_held(form=form), least_of(wanted))
                for own in lots_of(lot, 2):
                    self.assertIs(is_held(form=form, lot=list(own)), own in wanted)
                named = {cord for (other, row), _ in form.numbers for cord in (other, *row)}
                self.assertEqual(loose(form=form), tuple(cord for cord in lot if cord not in named))
                least = {cord for own in least_of(wanted) for cord in own}
                self.assertEqual(spare(form=form), tuple(cord for cord in lot if cord not in least))
                self.assertEqual(family_of(form=form), Family(lot, least_of(wanted)))
                self.assertTrue(set(loose(form)) <= set(spare(form)))

    def test_tangles(self):
        chance = seeded(2)
        for lot in all_lots()[1:]:
            tangle = random_tangle(chance, lot, 7)
            for own in lots_of(lot, 2):
                rest = tangle
                for cord in lot:
                    rest = rest if cord in own else rest.without(cord)
                self.assertIs(is_held(form_of(tangle), own), not alike(rest, Tangle(own)))

    def test_a_spare_cord_that_is_not_loose(self):
        form = Form.read("0 1 2 : 1 0 = 1 / 2 0 1 = 1")
        self.assertEqual([loose(form), spare(form), least_held(form)], [(), (2,), ((0, 1),)])
        self.assertEqual([loose(Form(LOT)), spare(Form(LOT)), held(Form(LOT)), held(Form([])), spare(Form([2]))],
                         [LOT, LOT, (), (), (2,)])

    def test_facts(self):
        chance = seeded(3)
        for lot in all_lots():
            one, other = random_form(chance, lot, 2, 0.2), random_form(chance, lot, 2, 0.2)
            first, second, whole = set(held(one)), set(held(other)), set(held(below(one, other)))
            self.assertTrue(first ^ second <= whole <= first | second)
            self.assertEqual([held(undoing(one)), held(repeated(one, -3)), held(repeated(one, 0))], [held(one), held(one), ()])
            for cord in lot:
                self.assertEqual(held(left_out(one, cord)), tuple(own for own in held(one) if cord not in own))
            for cut in range(len(lot) + 1):
                left, right = random_form(chance, lot[:cut], 2, 0.3), random_form(chance, lot[cut:], 2, 0.3)
                least = least_held(left) + least_held(right)
                self.assertEqual(held(beside(left, right)), Family(lot, least).all_held())
            self.assertEqual(held(below(one, undoing(one))), ())
            self.assertEqual(least_held(widened(one, LOT)), least_held(one))

    def test_refusals(self):
        form = Form([0, 1, 3], [((1, (0,)), 1)])
        for value in ODD + GREAT + ("0 1 :", Tangle([0]), Family([0, 1])):
            for call in (held, least_held, loose, spare, family_of):
                refuses(self, BadForm("form"), call, value)
            refuses(self, BadForm("form"), is_held, value, "x")
        for call in (lambda lot: is_held(form, lot), Family([0, 1, 3]).holds):
            for value in ODD + GREAT + ((), (0,), (1, 0), [3], (0, 1, 5)):
                refuses(self, BadLot("lot"), call, value)
            refuses(self, NoCord(2), call, [0, 2, 4])
            refuses(self, NoCord(4), call, (0, 1, 4))
            refuses(self, NoCord(2), call, (2, 4))


class Families(unittest.TestCase):
    def test_attributes(self):
        least = [[1, 2, 3], (0, 1)]
        family = Family(lot=[0, 1, 2, 3], least=least)
        self.assertEqual((family.lot, family.least), ((0, 1, 2, 3), ((0, 1), (1, 2, 3))))
        least[0].append(4)
        least.append(None)
        self.assertEqual(family.least, ((0, 1), (1, 2, 3)))
        self.assertEqual([Family(()).lot, Family([]).least, Family([4]).all_held(), Family([4], []).least], [(), (), (), ()])

    def test_refusals(self):
        for value in ODD + GREAT + ((1, 0), 0):
            if value != []:
                refuses(self, BadFamily("lot"), Family, value, "x")
        for value in ODD + GREAT + (0, [0], [(0,)], [()], [(1, 0)], [(0, 3)], [(0, 1), (0, 1)], [(0, 1), [0, 1]],
                                    [(0, 1, 2), (1, 2)], [(1, 2), (0, 1, 2)], [(0, 1), None], [(0, 1), "12"], [(0, True)],
                                    [(0, 1.0)], {(0, 1): 1}, "01", [[0, [1]]], [(0, 1), (1, 2), (0, 2), (0, 1)]):
            if value != []:
                refuses(self, BadFamily("least"), Family, (0, 1, 2), value)
        refuses(self, BadFamily("least"), Family, (0,), [(0, 1)])
        refuses(self, BadFamily("least"), Family, (), [(0, 1)])
        for value in ODD + GREAT + (Form([0, 1]), "0 1 :", ((0, 1), ())):
            refuses(self, BadFamily("family"), form_for, value)
            for call in (joined, both):
                refuses(self, BadFamily("one"), call, value, "x")
                refuses(self, BadFamily("other"), call, Family([0, 1]), value)
        for call in (joined, both):
            refuses(self, Misfit("lot"), call, Family([0, 1]), Family([0, 2]))

    def test_held_lots(self):
        chance = seeded(4)
        for lot in all_lots():
            family = random_family(chance, lot)
            wanted = tuple(own for own in lots_of(lot, 2) if any(set(least) <= set(own) for least in family.least))
            self.assertEqual(family.all_held(), wanted)
            for own in lots_of(lot, 2):
                self.assertIs(family.holds(lot=list(own)), own in wanted)
            for cords in lots_of(lot):
                rest = family.without(cords=list(cords))
                self.assertEqual(rest.lot, tuple(cord for cord in lot if cord not in cords))
                self.assertEqual(rest.all_held(), tuple(own for own in wanted if not set(own) & set(cords)))
        for value in ODD + GREAT + ((1, 0),):
            if value != []:
                refuses(self, BadLot("cords"), Family([0, 1]).without, value)
        refuses(self, NoCord(2), Family([0, 1, 3]).without, [0, 2, 4])

    def test_equal(self):
        family = Family([0, 1, 2], [(0, 1)])
        self.assertTrue(family == Family((0, 1, 2), [[0, 1]]) and not family != Family([0, 1, 2], ((0, 1),)))
        self.assertEqual(Family([0, 1, 2], [(0, 2), (0, 1)]), Family([0, 1, 2], [(0, 1), (0, 2)]))
        for other in (Family([0, 1], [(0, 1)]), Family([0, 1, 2]), Form([0, 1, 2]), None, "0 1 2 : 0 1"):
            self.assertIs(family == other, False)
            self.assertIs(family != other, True)

    def test_all_families(self):
        for many, count in ((1, 1), (2, 2), (3, 9), (4, 114)):
            found = list(families(many=many))
            self.assertEqual(len(found), count)
            self.assertEqual([family.least for family in found], antichains(many))
            self.assertEqual({family.lot for family in found}, {tuple(range(many))})
            for family in found:
                self.assertEqual(family_of(form_for(family=family)), family)
                self.assertEqual(Family.read(str(family)), family)
        for value in NO_INTEGERS + (0, 5, -1, 10 ** 30):
            refuses(self, BadNumber("many"), lambda value: list(families(value)), value)

    def test_forms_for_families(self):
        chance = seeded(5)
        for lot in all_lots():
            family = random_family(chance, lot)
            form = form_for(family)
            self.assertEqual(form, Form(lot, [((own[-1], own[:-1]), 1) for own in family.least]))
            self.assertEqual([held(form), least_held(form)], [family.all_held(), family.least])
        self.assertEqual([form_for(Family([])), family_of(Form([])), len(places_of(LOT))], [Form([]), Family([]), 36])

    def test_joined_and_both(self):
        chance = seeded(6)
        for lot in all_lots():
            for _ in range(4):
                one, other = random_family(chance, lot), random_family(chance, lot)
                first, second = set(one.all_held()), set(other.all_held())
                self.assertEqual(set(joined(one=one, other=other).all_held()), first | second)
                self.assertEqual(set(both(one=one, other=other).all_held()), first & second)


class Texts(unittest.TestCase):
    def test_there_and_back(self):
        chance = seeded(7)
        for lot in all_lots():
            for _ in range(5):
                family = random_family(chance, lot)
                words = [str(cord) for cord in lot] + [":"]
                for at, own in enumerate(family.least):
                    words += ["/"] * (at > 0) + [str(cord) for cord in own]
                self.assertEqual(str(family), " ".join(words))
                self.assertEqual(Family.read(text=str(family)), family)

    def test_words_that_cannot_stand(self):
        for text, word in (("", 0), ("0", 1), ("5", 0), ("1 0", 1), (": 0", 1), ("0 : 0", 2), ("0 1 : 0", 4), ("0 1 : 1", 3),
                           ("0 1 : 0 1 /", 5), ("0 1 : 0 0", 4), ("0 1 2 : 0 1 2 /", 7), ("0 1 2 : 0 1 /", 7),
                           ("0 1 2 : 1 2 /", 6), ("0 1 2 : 0 2 / 0 1", 7), ("0 1 2 : 0 2 / 1", 8), ("0 1 2 : 2", 4),
                           ("0 1 2 : 0 / 1", 5), ("0 1 2 : / 0 1", 4), ("0 1 2 : 0 1 / 0 1", 8), ("0 1 2 : 1 2 / 0 1 2", 6),
                           ("0 1 2 3 : 0 1 / 2 3 / 0", 10), ("0 1 2 3 : 0 1 2 / 0 2", 11), ("0 1 2 3 : 0 1 2 / 1 2", 11),
                           ("0 1 2 3 : 0 1 2 / 1 2 3 / 0", 12), ("0 1 2 3 : 2 3 / 0", 9), ("0 1 2 3 : 1 2 3 / 0", 8),
                           ("0 1 2 3 : 1 3 / 0 1 3", 10), ("0 1 2 3 : 1 3 / 0 1 2 3", 11), ("0 1 : 0 1 ", 5), ("0 1 : ", 3),
                           ("0 1 : 00 1", 3), ("0 1 : 0 +1", 4), ("0 1 2 3 4 : 0 1 2 3 4 /", 11), ("0 1 2 : 0 1 2", None),
                           ("0 1 2 3 : 1 3 / 0 1 2", None), ("0 1 2 3 : 0 1 2 / 0 3", 10), ("0 1 2 3 : 0 1 2 / 0 1 3", None)):
            if word is None:
                self.assertEqual(str(Family.read(text)), text)
            else:
                refuses(self, BadText(0, word), Family.read, text)
        for value in ODD + GREAT + (0, ["0", ":"], Family([0])):
            if not isinstance(value, str):
                refuses(self, BadText(0, 0), Family.read, value)

    def test_every_beginning(self):
        """A word can stand if the text of some family begins so: tried on all families of four cords."""
        texts = [str(family).split(" ") for family in families(4)]
        begun = {tuple(words[:many]) for words in texts for many in range(len(words) + 1)}
        whole = {tuple(words) for words in texts}
        for words in sorted(begun):
            if len(words) >= 4:
                for word in ("0", "1", "2", "3", "4", "/", ":", "", "x"):
                    told = words + (word,)
                    if told in whole:
                        self.assertEqual(str(Family.read(" ".join(told))), " ".join(told))
                    elif len(words) > 4:
                        wanted = len(told) if told in begun else len(words)
                        refuses(self, BadText(0, wanted), Family.read, " ".join(told))


class Cuts(unittest.TestCase):
    def all_some(self):
        chance = seeded(8)
        for lot in all_lots():
            for _ in range(6):
                yield random_family(chance, lot)
            yield Family(lot, lots_of(lot, 2)[:0] + [own for own in lots_of(lot, 2) if len(own) == 2])

    def first_left(self, family, cords):
        return [own for own in family.all_held() if not set(own) & set(cords)][0]

    def test_cuts(self):
        for family in self.all_some():
            wanted = [cords for cords in lots_of(family.lot) if all(set(own) & set(cords) for own in family.all_held())]
            for cords in lots_of(family.lot):
                self.assertIs(is_cut(family=family, cords=list(cords)), cords in wanted)
                self.assertIs(is_cut(family, cords), not family.without(cords).all_held())
            self.assertEqual(least_cuts(family=family), least_of(wanted))
            paper = fewest_cut(family=family)
            self.assertIs(type(paper), Cut)
            self.assertEqual(paper.cords, wanted[0])
            fewer = [cords for cords in lots_of(family.lot) if len(cords) == len(wanted[0]) - 1]
            self.assertEqual(paper.held, tuple(self.first_left(family, cords) for cords in fewer))

    def test_prices(self):
        chance = seeded(9)
        for family in self.all_some():
            for most in (1, 3, 10 ** 30):
                prices = [chance.randint(1, most) for _ in family.lot]

                def price(cords):
                    return sum(prices[family.lot.index(cord)] for cord in cords)

                cuts = [cords for cords in lots_of(family.lot) if is_cut(family, cords)]
                least = min(map(price, cuts))
                paper = cheapest_cut(family=family, prices=prices)
                self.assertIs(type(paper), Cheapest)
                self.assertEqual((paper.cords, paper.price), ([cords for cords in cuts if price(cords) == least][0], least))
                lesser = [cords for cords in lots_of(family.lot) if price(cords) < least]
                self.assertEqual(paper.held, tuple(self.first_left(family, cords) for cords in lesser))
                if most == 1:
                    self.assertEqual(paper.cords, fewest_cut(family).cords)

    def test_turned_about(self):
        for family in self.all_some():
            cuts = least_cuts(family)
            crossing = [own for own in lots_of(family.lot) if all(set(own) & set(cords) for cords in cuts)]
            self.assertEqual(least_of(crossing), family.least)

    def test_three_pairs_need_two_cords(self):
        around = Family([1, 2, 4], [(1, 2), (1, 4), (2, 4)])
        self.assertEqual(fewest_cut(around).parts, ((1, 2), ((2, 4), (1, 4), (1, 2))))
        self.assertEqual([fewest_cut(Family(LOT)).parts, least_cuts(Family([])), is_cut(Family([]), [])], [((), ()), ((),), True])
        self.assertEqual(cheapest_cut(Family([]), ()).parts, ((), 0, ()))

    def test_refusals(self):
        family = Family([0, 1, 3], [(0, 1)])
        for value in ODD + GREAT + (Form([0, 1]), "0 1 : 0 1", ((0, 1), ())):
            for call in (least_cuts, fewest_cut):
                refuses(self, BadFamily("family"), call, value)
            refuses(self, BadFamily("family"), is_cut, value, "x")
            refuses(self, BadFamily("family"), cheapest_cut, value, "x")
        for value in ODD + GREAT + ((1, 0), 0):
            if value != []:
                refuses(self, BadLot("cords"), is_cut, family, value)
        refuses(self, NoCord(2), is_cut, family, [0, 2, 4])
        for value in ODD + GREAT + (0, (), (1, 1), (1, 1, 1, 1), (1, 1, 0), (1, 1, -1), (1, True, 1), (1, 1.0, 1), "111",
                                    (1, None, 1), {0: 1, 1: 1, 3: 1}):
            refuses(self, BadNumber("prices"), cheapest_cut, family, value)


if __name__ == "__main__":
    unittest.main()
