import itertools
import unittest

from ghostcords.check_cuts import shows_cheapest, shows_cut
from ghostcords.cuts import Cheapest, Cut, cheapest_cut, fewest_cut, is_cut
from ghostcords.errors import BadFamily, BadNumber
from ghostcords.families import Family, families
from ghostcords.forms import Form
from helpers import GREAT, ODD, lots_of, refuses, seeded, shows_no_odd_value

LOT = (0, 1, 2, 3, 4)
AROUND = Family([0, 1, 2], [(0, 1), (0, 2), (1, 2)])


class ShowsCut(unittest.TestCase):
    def test_all_cuts_and_held_lots(self):
        chance = seeded(1)
        for family in list(families(4)) + [Family(LOT, [(0, 1), (1, 2), (3, 4)]), Family([1, 3]), Family([])]:
            fewest = min(len(cords) for cords in lots_of(family.lot) if is_cut(family, cords))
            fewer = [cords for cords in lots_of(family.lot) if len(cords) == fewest - 1]
            left = [[own for own in family.all_held() if not set(own) & set(cords)] for cords in fewer]
            self.assertIs(shows_cut(family=family, value=fewest_cut(family)), True)
            for cords in lots_of(family.lot):
                right = len(cords) == fewest and is_cut(family, cords)
                chosen = [list(chance.choice(lots)) for lots in left]
                self.assertIs(shows_cut(family, Cut(list(cords), chosen)), right)
                if right and chosen:
                    at = chance.randrange(len(chosen))
                    self.assertIs(shows_cut(family, Cut(cords, chosen[:at] + chosen[at + 1:])), False)
                    self.assertIs(shows_cut(family, Cut(cords, chosen + chosen[:1])), False)
                    for own in lots_of(LOT):
                        held = chosen[:at] + [own] + chosen[at + 1:]
                        self.assertIs(shows_cut(family, Cut(cords, held)), own in left[at])
                if len(cords) > 1:
                    self.assertIs(shows_cut(family, Cut(cords[::-1], chosen)), False)

    def test_any_value(self):
        shows_no_odd_value(self, lambda value: shows_cut(AROUND, value), Cut((1, 2), ((1, 2), (0, 2), (0, 1))))
        shows_no_odd_value(self, lambda value: shows_cut(Family([2]), value), Cut((), ()))
        for value in ODD + GREAT + (Form([0, 1]), "0 1 :"):
            refuses(self, BadFamily("family"), shows_cut, value, None)
            refuses(self, BadFamily("family"), shows_cheapest, value, "x", None)

    def test_cords_of_another_lot(self):
        self.assertIs(shows_cut(Family([0, 1], [(0, 1)]), Cut([2], [(0, 1)])), False)
        self.assertIs(shows_cut(Family([0, 1], [(0, 1)]), Cut([1], [(0, 1, 2)])), False)
        self.assertIs(shows_cut(Family([0, 1], [(0, 1)]), Cut([1], [(0, 1)])), True)


class ShowsCheapest(unittest.TestCase):
    def test_all_cuts_and_held_lots(self):
        chance = seeded(2)
        for family in list(families(3)) + chance.sample(list(families(4)), 40) + [Family([]), Family([3])]:
            for most in (1, 2, 10 ** 30):
                prices = [chance.randint(1, most) for _ in family.lot]
                price = {cords: sum(prices[family.lot.index(cord)] for cord in cords) for cords in lots_of(family.lot)}
                least = min(price[cords] for cords in price if is_cut(family, cords))
                left = [[own for own in family.all_held() if not set(own) & set(cords)]
                        for cords in lots_of(family.lot) if price[cords] < least]
                self.assertIs(shows_cheapest(family, tuple(prices), cheapest_cut(family, prices)), True)
                for cords in price:
                    right = is_cut(family, cords) and price[cords] == least
                    chosen = [list(chance.choice(lots)) for lots in left]
                    self.assertIs(shows_cheapest(family, prices, Cheapest(list(cords), least, chosen)), right)
                    self.assertIs(shows_cheapest(family, prices, Cheapest(cords, least + 1, chosen)), False)
                    if right and chosen:
                        at = chance.randrange(len(chosen))
                        for own in lots_of(LOT)[::3]:
                            held = chosen[:at] + [own] + chosen[at + 1:]
                            self.assertIs(shows_cheapest(family, prices, Cheapest(cords, least, held)), own in left[at])
                        self.assertIs(shows_cheapest(family, prices, Cheapest(cords, least, chosen[1:])), False)

    def test_any_value(self):
        prices = [1, 5, 2, 2]
        tied = Family([0, 1, 2, 3], [(1, 2, 3), [0, 1]])
        shows_no_odd_value(self, lambda value: shows_cheapest(tied, prices, value), cheapest_cut(tied, prices))
        self.assertIs(shows_cheapest(family=tied, prices=prices, value=Cheapest([0, 3], 3, [(0, 1), (1, 2, 3)] * 2)), False)
        for value in ODD + GREAT + (0, (), (1, 1, 1), (1, 1, 1, 0), (1, True, 1, 1), "1111"):
            refuses(self, BadNumber("prices"), shows_cheapest, tied, value, None)

    def test_any_of_some_cheapest(self):
        for cords in itertools.combinations((0, 1, 2), 2):
            held = [(0, 1), (1, 2), (0, 2), (0, 1)]
            self.assertIs(shows_cheapest(AROUND, [1, 1, 1], Cheapest(cords, 2, held)), True)


if __name__ == "__main__":
    unittest.main()
