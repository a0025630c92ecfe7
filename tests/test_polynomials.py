import math
import time
import unittest

from ghostcords.errors import BadNumber, BadPattern, TooMany
from ghostcords.polynomials import Binomial, through
from ghostcords.roots import common_roots, roots_of
from helpers import GREAT, NO_INTEGERS, ODD, refuses, seeded

TIMES = (*range(-14, 15), 10 ** 25, -10 ** 25 - 1)


def slow_at(numbers, t):
    return sum(number * (math.prod(t - at for at in range(k)) // math.factorial(k)) for k, number in enumerate(numbers))


def random_numbers(chance, most=12, size=9):
    return [chance.randint(-size, size) for _ in range(chance.randint(0, most))]


def planted(roots, lead=1):
    """The polynomial with these roots."""
    return through([lead * math.prod(t - root for root in roots) for t in range(len(roots) + 1)])


class Binomials(unittest.TestCase):
    def test_attributes(self):
        numbers = [0, 5, 10 ** 25, 0, 0]
        binomial = Binomial(numbers=numbers)
        numbers[1] = 6
        self.assertEqual((binomial.numbers, binomial.degree), ((0, 5, 10 ** 25), 2))
        self.assertEqual([Binomial(()).numbers, Binomial([]).degree, Binomial([0, 0]).numbers, Binomial([0] * 50).degree,
                          Binomial((7,)).degree], [(), -1, (), -1, 0])
        self.assertEqual(Binomial([0] * 11 + [1] + [0] * 30).degree, 11)

    def test_refusals(self):
        for value in ODD + GREAT + (0, [1, True], [1, 1.0], [1, None], "12", {0: 1}, [[1]], [1, [1]], Binomial([1]), (1, "1")):
            if not (isinstance(value, list) and value in ([], [0, 0], [5], [-1], [0, 1, 2, 3, 4, 0])):
                refuses(self, BadPattern("numbers"), Binomial, value)
                refuses(self, BadPattern("values"), through, value)
        refuses(self, BadPattern("values"), through, [])
        refuses(self, BadPattern("values"), through, ())
        for numbers in ([0] * 12 + [1], [1] * 13, [1] * 13 + [0]):
            refuses(self, TooMany("numbers", 12), Binomial, numbers)
        refuses(self, BadPattern("numbers"), Binomial, [1] * 13 + [None])
        one = Binomial([1, 2])
        for value in NO_INTEGERS:
            refuses(self, BadNumber("t"), one.at, value)
            refuses(self, BadNumber("u"), one.put, value, "x")
            refuses(self, BadNumber("v"), one.put, 1, value)
        for value in ODD + GREAT + (0, 1, [1, 2], (1, 2)):
            refuses(self, BadPattern("other"), lambda value: one + value, value)
            refuses(self, BadPattern("other"), lambda value: one - value, value)
            refuses(self, BadPattern("other"), lambda value: one * value, value)

    def test_values(self):
        chance = seeded(1)
        for size in (1, 9, 10 ** 30):
            for _ in range(10):
                numbers = random_numbers(chance, 12, size)
                for t in TIMES:
                    self.assertEqual(Binomial(numbers).at(t=t), slow_at(numbers, t))
        self.assertEqual(Binomial([]).at(10 ** 30), 0)

    def test_sums_products_and_put(self):
        chance = seeded(2)
        for _ in range(60):
            one, other = Binomial(random_numbers(chance, 12)), Binomial(random_numbers(chance, 6, 10 ** 20))
            u, v = chance.choice((0, 1, -1, 2, -3, 10 ** 20)), chance.choice((0, 1, -7, 10 ** 25))
            put = one.put(u=u, v=v)
            for t in TIMES:
                self.assertEqual((one + other).at(t), one.at(t) + other.at(t))
                self.assertEqual((one - other).at(t), one.at(t) - other.at(t))
                self.assertEqual((-one).at(t), -one.at(t))
                self.assertEqual(put.at(t), one.at(u * t + v))
            if one.degree + other.degree <= 11 or -1 in (one.degree, other.degree):
                for t in TIMES:
                    self.assertEqual((one * other).at(t), one.at(t) * other.at(t))
            else:
                refuses(self, TooMany("numbers", 12), lambda: one * other)
            self.assertEqual((one - one).numbers, ())
            self.assertEqual((one * Binomial([])).numbers, ())
        eleven = Binomial([0] * 11 + [1])
        self.assertEqual([(eleven * Binomial([5])).degree, (Binomial([0] * 5 + [1]) * Binomial([0] * 6 + [2])).degree], [11, 11])
        refuses(self, TooMany("numbers", 12), lambda: eleven * Binomial([0, 1]))
        refuses(self, TooMany("numbers", 12), lambda: Binomial([0] * 6 + [1]) * Binomial([0] * 6 + [1]))

    def test_differences(self):
        binomial = Binomial([4, -1, 7, 0, 3])
        for t in TIMES:
            self.assertEqual(binomial.at(t + 1) - binomial.at(t), Binomial(binomial.numbers[1:]).at(t))

    def test_through(self):
        chance = seeded(3)
        for size in (5, 10 ** 30):
            for many in range(1, 13):
                values = [chance.randint(-size, size) for _ in range(many)]
                binomial = through(values=values)
                self.assertLess(binomial.degree, many)
                self.assertEqual([binomial.at(t) for t in range(many)], values)
        self.assertEqual(through([t ** 3 for t in range(40)]), through([0, 1, 8, 27]))
        self.assertEqual([through([0] * 20).numbers, through((3,)).numbers], [(), (3,)])
        refuses(self, TooMany("numbers", 12), through, [t ** 12 for t in range(13)])
        refuses(self, TooMany("numbers", 12), through, [0] * 12 + [1])
        self.assertEqual(through([t ** 11 for t in range(30)]).degree, 11)

    def test_equal(self):
        self.assertTrue(Binomial([1, 2]) == Binomial((1, 2, 0)) and not Binomial([1]) != Binomial([1]))
        for other in (Binomial([1]), Binomial([1, 2, 3]), (1, 2), None, 1):
            self.assertIs(Binomial([1, 2]) == other, False)
            self.assertIs(Binomial([1, 2]) != other, True)


class Roots(unittest.TestCase):
    def test_planted(self):
        chance = seeded(4)
        for size in (2, 5, 50, 10 ** 6, 10 ** 30, 10 ** 60):
            for many in range(12):
                roots = [chance.randint(-size, size) for _ in range(many)]
                roots += [chance.choice(roots)] * chance.choice((0, 1)) if 0 < many < 11 else []
                for lead in (1, -3, 10 ** 30 + 7):
                    self.assertEqual(roots_of(binomial=planted(roots, lead)), tuple(sorted(set(roots))))

    def test_roots_side_by_side(self):
        for start in (0, -5, 10 ** 30, -10 ** 30):
            for many in range(1, 12):
                row = [start + at for at in range(many)]
                self.assertEqual(roots_of(planted(row)), tuple(row))
                self.assertEqual(roots_of(planted([start] * many)), (start,))
                self.assertEqual(roots_of(planted([start, -start - 3] * (many // 2))), tuple(sorted({start, -start - 3}))
                                 if many > 1 else ())

    def test_roots_among_others(self):
        """Polynomials that also have roots which are no integers, or none at all."""
        chance = seeded(5)
        for size in (3, 100, 10 ** 30):
            for _ in range(20):
                roots = [chance.randint(-size, size) for _ in range(chance.randint(0, 4))]
                rest = [(chance.choice((2, 3, 7)), chance.randint(-size, size)) for _ in range(chance.randint(0, 2))]
                most = chance.randint(0, size)

                def value(t):
                    odd = math.prod(5 * (a * t - b) + 1 for a, b in rest)
                    return math.prod(t - root for root in roots) * odd * (t * t + most * t + most * most + 1)

                binomial = through([value(t) for t in range(len(roots) + len(rest) + 3)])
                found = [t for t in set(roots) | {b // a + at for a, b in rest for at in (-1, 0, 1)} if value(t) == 0]
                self.assertEqual(roots_of(binomial), tuple(sorted(found)))

    def test_small_ones_by_trying(self):
        chance = seeded(6)
        for _ in range(300):
            binomial = Binomial(random_numbers(chance, 7, 4))
            if binomial.degree < 0:
                self.assertIsNone(roots_of(binomial))
                continue
            # No root is further away than the numbers of the polynomial of powers of t let it be.
            found = roots_of(binomial)
            self.assertEqual([t for t in found if -3000 < t < 3000], [t for t in range(-3000, 3000) if binomial.at(t) == 0])
            self.assertTrue(all(binomial.at(t) == 0 for t in found))

    def test_edges(self):
        self.assertEqual([roots_of(Binomial([])), roots_of(Binomial([0, 0])), roots_of(Binomial([5])), roots_of(Binomial([-1]))],
                         [None, None, (), ()])
        great = 10 ** 30
        self.assertEqual(roots_of(Binomial([-great * 7, 7])), (great,))
        self.assertEqual(roots_of(Binomial([-great * 7 - 1, 7])), ())
        self.assertEqual(roots_of(Binomial([0] * 11 + [1])), tuple(range(11)))
        self.assertEqual([roots_of(Binomial([great] * 12)), roots_of(Binomial([great] * 11))], [(-1,), ()])

    def test_common(self):
        chance = seeded(7)
        for size in (3, 10 ** 30):
            for _ in range(20):
                roots = [[chance.randint(-size, size) for _ in range(3)] for _ in range(3)]
                shared = [chance.randint(-size, size) for _ in range(chance.randint(0, 3))]
                binomials = [planted(own + shared, chance.choice((1, -2))) for own in roots]
                wanted = set.intersection(*[set(own + shared) for own in roots])
                binomials.insert(chance.randrange(4), Binomial([]))
                self.assertEqual(common_roots(binomials=binomials), tuple(sorted(wanted)))
        self.assertEqual([common_roots([]), common_roots(()), common_roots([Binomial([])] * 3)], [None] * 3)
        self.assertEqual(common_roots([Binomial([]), Binomial([4])]), ())
        self.assertEqual(common_roots((planted([1, 2]), planted([2, 3]))), (2,))

    def test_refusals(self):
        for value in ODD + GREAT + (0, [1], (1,)):
            refuses(self, BadPattern("binomial"), roots_of, value)
            if value != []:
                refuses(self, BadPattern("binomials"), common_roots, value)
        for value in ([Binomial([1]), None], Binomial([1]), {0: Binomial([1])}, [[Binomial([1])]]):
            refuses(self, BadPattern("binomials"), common_roots, value)

    def test_short_time(self):
        chance = seeded(8)
        for digits, most in ((30, 0.5), (300, 3)):
            roots = [chance.randint(-10 ** digits, 10 ** digits) for _ in range(11)]
            binomial = planted(roots, 12345678901)
            start = time.process_time()
            self.assertEqual(roots_of(binomial), tuple(sorted(roots)))
            self.assertEqual(common_roots([binomial, planted(roots[:4])]), tuple(sorted(roots[:4])))
            self.assertLess(time.process_time() - start, most)


if __name__ == "__main__":
    unittest.main()
