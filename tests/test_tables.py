import itertools
import unittest

from ghostcords.check_tables import shows_fits
from ghostcords.errors import BadLot, BadReading, Twice
from ghostcords.papers import Denial, Paper
from ghostcords.readings import Reading
from ghostcords.tables import Breaks, Fits, fits
from helpers import GREAT, ODD, all_lots, all_rows, random_word, refuses, seeded


def slow_weavings(one, other):
    rows = itertools.permutations(one + other)
    return [row for row in rows if tuple(cord for cord in row if cord in one) == one
            and tuple(cord for cord in row if cord in other) == other]


def failures(lot, table):
    """All (one, other, product, total) at which the order rule fails, one ahead of other in order."""
    rows = all_rows(lot)[1:]
    for at, one in enumerate(rows):
        for other in rows[at + 1:]:
            if not set(one) & set(other):
                product, total = table[one] * table[other], sum(table[row] for row in slow_weavings(one, other))
                if product != total:
                    yield one, other, product, total


class Tables(unittest.TestCase):
    def test_tables_that_fit(self):
        chance = seeded(1)
        for lot in all_lots():
            reading = Reading.of(random_word(chance, 30), lot)
            pairs = [[list(row), count] for row, count in reading.counts()]
            chance.shuffle(pairs)
            paper = fits(list(lot), pairs)
            self.assertIs(type(paper), Fits)
            self.assertEqual(paper, Fits(reading.leads))
            self.assertTrue(shows_fits(lot, pairs, paper))
            self.assertFalse(shows_fits(lot, pairs, Fits(reading.leads + (((0,), 0),))))
        great = Reading((0, 1, 2, 3), [((0,), 10 ** 30), ((1, 3, 2), -10 ** 60), ((3,), 7)])
        self.assertEqual(fits(counts=great.counts(), lot=great.lot).leads, great.leads)

    def test_tables_that_do_not_fit(self):
        chance = seeded(2)
        for lot in all_lots():
            if not 2 <= len(lot) <= 4:
                continue
            for _ in range(3):
                table = dict(Reading.of(random_word(chance, 12), lot).counts())
                row = chance.choice([row for row in table if len(row) > 1])
                table[row] += chance.choice((1, -1, 10 ** 30))
                wrong = list(failures(lot, table))
                paper = fits(lot, list(table.items()))
                self.assertEqual(paper.parts, wrong[0])
                self.assertIs(type(paper), Breaks)
                for one, other, product, total in wrong:
                    self.assertTrue(shows_fits(lot, tuple(table.items()), Breaks(list(one), other, product, total)))
                    self.assertTrue(shows_fits(lot, tuple(table.items()), Breaks(other, one, product, total)))
                    self.assertFalse(shows_fits(lot, tuple(table.items()), Breaks(one, other, product + 1, total)))
                    self.assertFalse(shows_fits(lot, tuple(table.items()), Breaks(one, other, product, total - 1)))
                self.assertFalse(shows_fits(lot, list(table.items()), Fits([])))

    def test_rows_of_one_word_bent(self):
        lot = (0, 1, 2, 3)
        pairs = Reading.of(random_word(seeded(3), 20), lot).counts()
        for at, (row, count) in enumerate(pairs):
            bent = pairs[:at] + ((row, count + 1),) + pairs[at + 1:]
            paper = fits(lot, bent)
            self.assertFalse(paper)
            self.assertTrue(shows_fits(lot, bent, paper))
            self.assertFalse(shows_fits(lot, pairs, paper))

    def test_refusals(self):
        pairs = Reading((0, 1)).counts()
        for call in (fits, lambda lot, counts: shows_fits(lot, counts, Fits([])),
                     lambda lot, counts: shows_fits(lot, counts, None)):
            for value in ODD + GREAT + (0, (1, 0)):
                if value != []:
                    refuses(self, BadLot("lot"), call, value, "x")
            for value in ODD + GREAT + (0, [0], dict(pairs), pairs + (((), 1),), pairs[1:] + (((0,), True),),
                                        pairs[1:] + (((0,), 1.0),), pairs + (((2,), 1),), pairs + (((0, 0), 1),),
                                        pairs + (((0,), 1, 1),), pairs[:1] * 2 + ("x",), pairs[1:] + ((0, 1),)):
                refuses(self, BadReading("counts"), call, (0, 1), value)
            refuses(self, BadReading("counts"), call, (0, 1), [])
            for at in range(len(pairs)):
                refuses(self, BadReading("counts"), call, [0, 1], pairs[:at] + pairs[at + 1:])
                refuses(self, Twice(pairs[at][0]), call, [0, 1], pairs + (pairs[at],))
                row, count = pairs[at]
                refuses(self, Twice(row), call, [0, 1], [*pairs, [list(row), count + 1]])
                refuses(self, Twice(row), call, [0, 1], [*pairs[:at + 1], [list(row), 5]])
        self.assertEqual(fits([], []), Fits([]))
        refuses(self, BadReading("counts"), fits, [], [((), 1)])

    def test_any_value(self):
        good = Reading((0, 1), [((0,), 1), ((1,), 1)]).counts()
        bad = ((good[0][0], 5),) + good[1:]
        right = fits((0, 1), bad)
        for value in ODD + GREAT + (Paper("fits", (((0,), 1), ((1,), 1))), Denial("breaks", *right.parts), good):
            self.assertIs(shows_fits((0, 1), good, value), False)
            self.assertIs(shows_fits((0, 1), bad, value), False)
            self.assertIs(shows_fits((0, 1), good, Fits(value)), False)
            self.assertIs(shows_fits((0, 1), bad, Fits(value)), False)
            for at in range(4):
                parts = list(right.parts)
                parts[at] = value
                self.assertIs(shows_fits((0, 1), bad, Breaks(*parts)), False)
        self.assertIs(shows_fits(lot=[0, 1], counts=bad, value=right), True)
        self.assertIs(shows_fits((0, 1), good, Fits([((0,), True), ((1,), 1)])), False)
        self.assertIs(shows_fits((0, 1), good, Fits([((False,), 1), ((1,), 1)])), False)
        self.assertIs(shows_fits((0, 1), good, Fits([((0,), 1.0), ((1,), 1)])), False)
        self.assertIs(shows_fits((0, 1), good, Fits([((1,), 1), ((0,), 1)])), False)
        self.assertIs(shows_fits((0, 1), good, Fits([((0,), 1), ((1,), 1), ((0, 1), 0)])), False)
        self.assertIs(shows_fits((0, 1), good, Fits([[[0], 1], [[1], 1]])), True)

    def test_rows_that_no_rule_is_of(self):
        table = Reading((0, 1, 2)).counts()
        bent = table[:-1] + ((table[-1][0], 1),)
        for one, other in (((0,), (0, 1)), ((), (0,)), ((0,), ()), ((0,), (3,)), ((0, 0), (1,)), ((False,), (2, 1)), (0, (2, 1))):
            for product in (0, 1):
                for total in (0, 1):
                    self.assertIs(shows_fits((0, 1, 2), bent, Breaks(one, other, product, total)), False)
        self.assertIs(shows_fits((0, 1, 2), bent, Breaks([2], [1, 0], 0, 1)), True)
        self.assertIs(shows_fits((0, 1, 2), bent, Breaks([2], [1, 0], False, 1)), False)
        self.assertIs(shows_fits((0, 1, 2), bent, Breaks([2], [1, 0], 0, True)), False)
        self.assertIs(shows_fits((0, 1, 2), bent, Breaks([1], [0, 2], 0, 0)), False)


if __name__ == "__main__":
    unittest.main()
