"""Readings over five cords, and what is made of them, take a small part of a thousandth of a second each."""

import itertools
import math
import time
import unittest

from ghostcords.readings import Reading
from ghostcords.windings import leading_rows
from helpers import all_rows

LOT = (0, 1, 2, 3, 4)
MANY = 120
# A slow machine may take four times as long as this one; what took milliseconds each takes twice as long again.
MOST_SECONDS = 0.9
GREAT = 10 ** 20
LEADS = tuple((row, GREAT + at) for at, row in enumerate(leading_rows(LOT)))
CHECKED = ((0,), (4,), (3, 1), (1, 0), (2, 4, 0), (0, 4, 2), (4, 3, 2, 1), (1, 2, 0, 3), (4, 2, 0, 1, 3), (0, 3, 1, 4, 2))


def counts_of(reading):
    return {(): 1, **dict(reading.counts())}


def cuts_of(row, many):
    """All cuts of a row into so many parts, none empty."""
    for ends in itertools.combinations(range(1, len(row)), many - 1):
        yield [row[start:end] for start, end in zip((0, *ends), (*ends, len(row)))]


def slow_behind(one, other, row):
    return sum(one[row[:cut]] * other[row[cut:]] for cut in range(len(row) + 1))


def slow_over(times, many):
    product = math.prod(times - at for at in range(many))
    return product // math.factorial(many)


def slow_times(counts, times, row):
    return sum(slow_over(times, many) * sum(math.prod(counts[part] for part in parts) for parts in cuts_of(row, many))
               for many in range(1, len(row) + 1))


class QuickReadings(unittest.TestCase):
    def setUp(self):
        self.one = Reading(LOT, LEADS)
        self.counts = counts_of(self.one)
        for row, count in LEADS:
            self.assertEqual(self.counts[row], count)

    def quick(self, make, wanted):
        """Many values of their own come in a short time, each with the counts that are wanted."""
        leads = tuple((row, wanted(row)) for row, _ in LEADS if wanted(row) != 0)
        checked = [(row, wanted(row)) for row in CHECKED]
        seconds = 0
        for _ in range(MANY):
            start = time.process_time()
            answer = make()
            self.assertEqual(answer.leads, leads)
            seconds += time.process_time() - start
            for row, count in checked:
                self.assertEqual(answer.count(row), count)
        self.assertEqual(dict(answer.counts()), {row: wanted(row) for row in all_rows(LOT)[1:]})
        return seconds

    def test_some_hundred_of_each(self):
        seven = self.one.repeated(7)
        alone = Reading(LOT, [((0,), 1)])
        seconds = [
            self.quick(lambda: Reading(LOT, LEADS), lambda row: self.counts[row]),
            self.quick(lambda: Reading(LOT, [((0,), 1)]), lambda row: int(row == (0,))),
            self.quick(lambda: self.one * self.one, lambda row: slow_behind(self.counts, self.counts, row)),
            self.quick(lambda: ~self.one, lambda row: (-1) ** len(row) * self.counts[row[::-1]]),
            self.quick(lambda: self.one.repeated(GREAT), lambda row: slow_times(self.counts, GREAT, row)),
            self.quick(lambda: seven.root(7), lambda row: self.counts[row]),
            self.quick(lambda: alone * self.one, lambda row: slow_behind(counts_of(alone), self.counts, row)),
        ]
        self.assertLess(sum(seconds), MOST_SECONDS, seconds)

    def test_counts_of_roots_and_times_below_zero(self):
        for times in (-7, -1, 2, 24, -GREAT):
            many = self.one.repeated(times)
            self.assertEqual(counts_of(many), {row: slow_times(self.counts, times, row) if row else 1
                                               for row in all_rows(LOT)})
            self.assertEqual(many.root(times), self.one)
            leads = list(many.leads)
            for at in (0, 4, 5, 33, 88):
                bent = [(row, count + (place == at)) for place, (row, count) in enumerate(leads)]
                root = Reading(LOT, bent).root(times)
                self.assertTrue(times == -1 or root is None)
                if root is not None:
                    self.assertEqual(root.repeated(times), Reading(LOT, bent))


if __name__ == "__main__":
    unittest.main()
