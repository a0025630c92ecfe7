import unittest

from ghostcords.errors import BadNumber, BadTangle, NoCord
from ghostcords.names import name, names_behind, order_behind, reading, readings
from ghostcords.readings import Reading
from ghostcords.tangles import Tangle
from ghostcords.words import Word
from helpers import GREAT, NO_INTEGERS, ODD, all_lots, all_rows, random_tangle, refuses, seeded

LOT = (0, 1, 2, 3, 4)


def reduced(letters):
    kept = []
    for cord, sign in letters:
        if kept and kept[-1] == (cord, -sign):
            kept.pop()
        else:
            kept.append((cord, sign))
    return kept


def opposite(letters):
    return [(cord, -sign) for cord, sign in reversed(letters)]


def slow_names(tangle, many):
    """Order, names and what has been seen, as words, straight from the definition."""
    order = list(tangle.lot)
    names = {cord: [(cord, 1)] for cord in order}
    seen = {cord: [] for cord in order}
    for place, sign in tangle.crossings[:many]:
        left, right = order[place], order[place + 1]
        if sign == 1:
            g = names[left]
            seen[right] = reduced(seen[right] + g)
            names[right] = reduced(opposite(g) + names[right] + g)
        else:
            g = names[right]
            seen[left] = reduced(seen[left] + opposite(g))
            names[left] = reduced(g + names[left] + opposite(g))
        order[place:place + 2] = [right, left]
    return order, names, seen


def reading_of_letters(letters, lot):
    """The reading of a word of any length."""
    whole = Reading(lot)
    for at in range(0, len(letters), 1500):
        whole = whole * Reading.of(Word(letters[at:at + 1500]), lot)
    return whole


def rest_of(lot, cord):
    return tuple(other for other in lot if other != cord)


class Names(unittest.TestCase):
    def test_as_defined(self):
        chance = seeded(1)
        for lot in all_lots():
            if not lot:
                continue
            tangle = random_tangle(chance, lot, 7)
            for many in range(len(tangle) + 1):
                order, names, seen = slow_names(tangle, many)
                if sum(map(len, names.values())) > 20000:
                    break
                self.assertEqual(order_behind(tangle, many), tuple(order))
                wanted = tuple(reading_of_letters(names[cord], lot) for cord in order)
                self.assertEqual(names_behind(many=many, tangle=tangle), wanted)
            else:
                self.assertEqual(readings(tangle), tuple(reading_of_letters(seen[cord], rest_of(lot, cord)) for cord in lot))
                for cord in lot:
                    self.assertEqual(name(tangle, cord), reading_of_letters(names[cord], lot))

    def test_one_and_all(self):
        tangle = random_tangle(seeded(2), (0, 1, 3, 4), 40)
        self.assertEqual(readings(tangle=tangle), tuple(reading(tangle, cord) for cord in tangle.lot))
        self.assertEqual(names_behind(tangle, len(tangle)), tuple(name(cord=cord, tangle=tangle) for cord in tangle.lot))
        for cord, told in zip(tangle.lot, readings(tangle)):
            self.assertEqual(told.lot, rest_of(tangle.lot, cord))
            self.assertEqual(name(tangle, cord).lot, tangle.lot)
            letter = Reading(tangle.lot, [((cord,), 1)])
            whole = told.within(tangle.lot)
            self.assertEqual(name(tangle, cord), ~whole * letter * whole)
            for row in all_rows(told.lot):
                self.assertEqual(name(tangle, cord).count((cord,) + row), told.count(row))
        self.assertEqual(readings(Tangle([2])), (Reading(()),))
        self.assertEqual(name(Tangle([2]), 2).leads, (((2,), 1),))

    def test_the_product_never_changes(self):
        chance = seeded(3)
        for lot in (LOT, (0, 2, 3), (1, 4)):
            tangle = random_tangle(chance, lot, 20)
            for many in range(0, len(tangle) + 1, 3):
                product = Reading(lot)
                for named in reversed(names_behind(tangle, many)):
                    product = product * named
                for row in all_rows(lot):
                    self.assertEqual(product.count(row), int(list(row) == sorted(row, reverse=True)))

    def test_signs_of_two_cords(self):
        tangle = random_tangle(seeded(4), LOT, 60)
        for one in LOT:
            for other in LOT:
                if one != other:
                    total = 0
                    for many, (place, sign) in enumerate(tangle.crossings):
                        if set(order_behind(tangle, many)[place:place + 2]) == {one, other}:
                            total += sign
                    self.assertEqual(2 * reading(tangle, one).count([other]), total)

    def test_in_front_reads_nothing(self):
        tangle = Tangle([0, 1, 2], [(1, -1), (0, -1), (0, 1), (1, 1)] * 5 + [(0, 1), (0, 1)])
        self.assertEqual(reading(tangle, 2).leads, ())

    def test_without_beside_below(self):
        chance = seeded(5)
        tangle = random_tangle(chance, LOT, 40)
        for cord in LOT:
            rest = tangle.without(cord)
            for other in rest.lot:
                self.assertEqual(reading(rest, other), reading(tangle, other).within(rest_of(rest.lot, other)))
        one, other = random_tangle(chance, (0, 1), 10), random_tangle(chance, (2, 3, 4), 20)
        both = one.beside(other)
        for cord in LOT:
            wanted = reading(one if cord < 2 else other, cord).within(rest_of(LOT, cord))
            self.assertEqual(reading(both, cord), wanted)
        above, below = random_tangle(chance, LOT, 6), random_tangle(chance, LOT, 4)
        for cord in LOT:
            rest = rest_of(LOT, cord)
            letters = slow_names(below, len(below))[2][cord]
            wanted = reading(above, cord)
            for letter, sign in letters:
                named = name(above, letter).within(rest)
                wanted = wanted * (named if sign == 1 else ~named)
            self.assertEqual(reading(above * below, cord), wanted)

    def test_refusals(self):
        tangle = Tangle([0, 1, 2], [(0, 1), (0, 1)])
        for value in ODD + (0, "0 1 :", Word()):
            for call in (order_behind, names_behind, name, reading):
                refuses(self, BadTangle("tangle"), call, value, "x")
            refuses(self, BadTangle("tangle"), readings, value)
        for value in NO_INTEGERS + GREAT + (-1, 3):
            refuses(self, BadNumber("many"), order_behind, tangle, value)
            refuses(self, BadNumber("many"), names_behind, tangle, value)
            refuses(self, NoCord(value), name, tangle, value)
            refuses(self, NoCord(value), reading, tangle, value)

    def test_great_tangles(self):
        tangle = random_tangle(seeded(6), LOT, 60)
        self.assertEqual(len(names_behind(tangle, len(tangle))), 5)
        self.assertEqual(readings(tangle * ~tangle), readings(Tangle(LOT)))


if __name__ == "__main__":
    unittest.main()
