import heapq
import itertools
import unittest

from ghostcords.check_rings import shows_passes, shows_rings
from ghostcords.errors import BadForm, BadNumber, BadRing, BadTangle, Misfit, Twice
from ghostcords.forms import Form, form_of, places_of
from ghostcords.passes import Barred, Passes, fewest_passes, let_through, passed
from ghostcords.rings import OneRing, Pair, Rings, TwoRings, closed_of, put_round, rings_of, same_rings
from ghostcords.tangles import Tangle, order_after
from helpers import GREAT, NO_INTEGERS, ODD, random_form, random_tangle, refuses, seeded, shows_no_odd_value

PAIRS = ((0, 1), (0, 2), (1, 2))
MOST = 3


def steps(rings, prices):
    """All single passes from rings, with small turns and last numbers: what they cost, and the rings behind."""
    for at, pair in enumerate(rings.pairs()):
        for which, change in enumerate((1, -1)):
            price = 1 if prices is None else prices[at][which]
            if price is not None and abs(rings.turns[at] + change) <= MOST:
                for last in range(-MOST, MOST + 1) if rings.SIZE == 3 else (0,):
                    turns = [turn + change * (at == own) for own, turn in enumerate(rings.turns)]
                    yield price, closed_of(turns, last)


def key(rings):
    return rings.turns, rings.last


def searched(one, other, prices=None):
    """The price of the cheapest passes by trying all, None if none lead there."""
    best = {key(one): 0}
    waiting = [(0, key(one))]
    while waiting:
        price, (turns, last) = heapq.heappop(waiting)
        if (turns, last) == key(other):
            return price
        if best[(turns, last)] == price:
            for more, later in steps(closed_of(turns, last), prices):
                if price + more < best.get(key(later), price + more + 1):
                    best[key(later)] = price + more
                    heapq.heappush(waiting, (price + more, key(later)))
    return None


def random_prices(chance, many, barred=0.25):
    return [tuple(None if chance.random() < barred else chance.randint(1, 5) for _ in range(2)) for _ in range(many)]


def small_rings(chance):
    return Rings(*(chance.randint(-1, 1) for _ in range(3)), chance.randint(-1, 1))


def done(rings, runs):
    for run in runs:
        rings = passed(rings, *run)
    return rings


class LetThrough(unittest.TestCase):
    def test_signs(self):
        tangle = Tangle.read("0 1 2 : -1 +0 +0 +1")
        self.assertEqual(let_through(tangle), tangle)
        self.assertEqual(str(let_through(tangle, 0)), "0 1 2 : +1 +0 +0 +1")
        self.assertEqual(str(let_through(tangle, 3, 1)), "0 1 2 : -1 -0 +0 -1")
        self.assertEqual(let_through(tangle, 0, 1, 2, 3), tangle.mirrored())
        self.assertEqual(let_through(Tangle([2])), Tangle([2]))

    def test_a_pass_changes_one_turn(self):
        chance = seeded(1)
        for _ in range(60):
            lot = chance.choice([(0, 1), (1, 4), (0, 1, 2), (0, 2, 3)])
            tangle = random_tangle(chance, lot, 10)
            index = chance.randrange(len(tangle)) if len(tangle) else None
            if index is None:
                continue
            place, sign = tangle.crossings[index]
            order = order_after(lot, tangle.crossings[:index])
            pair = tuple(sorted(lot.index(cord) for cord in order[place:place + 2]))
            rings, later = rings_of(form_of(tangle)), rings_of(form_of(let_through(tangle, index)))
            self.assertEqual(later, passed(rings, pair, -sign, 1, later.last))
            self.assertEqual(let_through(let_through(tangle, index), index), tangle)

    def test_refusals(self):
        tangle = Tangle.read("0 1 2 : -1 +0 +0 +1")
        for value in ODD + GREAT + (tangle.crossings, Pair(1)):
            refuses(self, BadTangle("tangle"), let_through, value, "x")
        for value in NO_INTEGERS + (-1, 4, 10 ** 30):
            refuses(self, BadNumber("crossings"), let_through, tangle, value)
            refuses(self, BadNumber("crossings"), let_through, tangle, 1, 1, value)
        refuses(self, Twice(2), let_through, tangle, 1, 2, 3, 2, 1)
        refuses(self, BadNumber("crossings"), let_through, Tangle([0]), 0)


class Passed(unittest.TestCase):
    def test_one_turn_grows(self):
        self.assertEqual(passed(Rings(2, 4, 6, 1), (0, 2), -1), Rings(2, 3, 6))
        self.assertEqual(passed(rings=Rings(0, 0, 0, 5), pair=[1, 2], change=1, times=6, last=-1), Rings(0, 0, 6, 5))
        self.assertEqual(passed(Rings(0, 0, 6, 5), (1, 2), -1, 6, 10 ** 30), Rings(0, 0, 0, 10 ** 30))
        self.assertEqual(passed(Pair(3), (0, 1), -1, 10 ** 30, None), Pair(3 - 10 ** 30))
        self.assertEqual([passed(Pair(3), [0, 1], 1, 1, last) for last in ODD[:12]], [Pair(4)] * 12)
        for at, pair in enumerate(PAIRS):
            turns = [5, -7, 0]
            turns[at] += 4
            self.assertEqual(passed(Rings(5, -7, 0), pair, 1, 4, 3), Rings(*turns, 3))

    def test_refusals(self):
        for value in ODD + GREAT + (Form([0, 1]), (1, 2, 3), Tangle([0, 1])):
            refuses(self, BadRing("rings"), passed, value, "x", "x", "x", "x")
        for rings in (Pair(2), Rings(1, 2, 3)):
            for value in ODD + GREAT + ((1, 0), (0, 0), (0, 3), (0,), (0, 1, 2), (0, True), (0.0, 1), (2, 1), 0, (-1, 0)):
                refuses(self, BadNumber("pair"), passed, rings, value, "x", "x", "x")
            for value in NO_INTEGERS + (0, 2, -2, 10 ** 30):
                refuses(self, BadNumber("change"), passed, rings, (0, 1), value, "x", "x")
            for value in NO_INTEGERS + (0, -1, -10 ** 30):
                refuses(self, BadNumber("times"), passed, rings, (0, 1), 1, value, "x")
        for value in NO_INTEGERS:
            refuses(self, BadNumber("last"), passed, Rings(1, 2, 3), (0, 1), 1, 1, value)
        for pair in PAIRS[1:]:
            refuses(self, BadNumber("pair"), passed, Pair(0), pair, 1)


class Fewest(unittest.TestCase):
    def check(self, one, other, prices=None):
        paper = fewest_passes(one, other, prices)
        price = searched(one, other, prices)
        if price is None:
            self.assertEqual((type(paper), bool(paper)), (Barred, False))
            self.check_barred(one, other, prices, paper)
        else:
            self.assertEqual((type(paper), bool(paper), paper.price), (Passes, True, price))
            self.check_runs(one, other, prices, paper)
        self.assertIs(shows_passes(one, other, paper, prices), True)
        return paper

    def check_runs(self, one, other, prices, paper):
        self.assertEqual(done(one, paper.runs), other)
        self.assertEqual([run[3] for run in paper.runs], [other.last] * len(paper.runs))
        differing = [at for at in range(len(one.turns)) if one.turns[at] != other.turns[at]]
        if differing:
            self.assertEqual([run[0] for run in paper.runs], [PAIRS[at] for at in differing])
        elif one == other:
            self.assertEqual(paper.parts, (0, ()))
        else:
            pair = paper.runs[0][0]
            self.assertEqual(paper.runs, ((pair, 1, 1, other.last), (pair, -1, 1, other.last)))
            costs = [sum(own) if None not in own else 10 ** 9 for own in (prices or [(1, 1)] * 3)]
            self.assertEqual(pair, PAIRS[costs.index(min(costs))])

    def check_barred(self, one, other, prices, paper):
        needed = [(PAIRS[at], 1 if other.turns[at] > one.turns[at] else -1) for at in range(len(one.turns))
                  if one.turns[at] != other.turns[at]]
        barred = [(PAIRS[at], change) for at, own in enumerate(prices) for change, price in zip((1, -1), own)
                  if price is None]
        if needed:
            self.assertEqual(paper.passes, ([own for own in needed if own in barred][0],))
        else:
            first = [[own for own in barred if own[0] == pair][0] for pair in PAIRS]
            self.assertEqual(paper.passes, tuple(first))

    def test_by_search(self):
        chance = seeded(2)
        for _ in range(25):
            self.check(small_rings(chance), small_rings(chance))
            self.check(small_rings(chance), small_rings(chance), random_prices(chance, 3))

    def test_last_numbers_that_differ_alone(self):
        chance = seeded(3)
        kinds = set()
        for many in range(25):
            one = Rings(*chance.choice([(0, 0, 0), (2, 0, 2), (0, 3, 0)]), chance.randint(0, 1))
            other = Rings(*one.turns, one.last + 1)
            kinds.add(bool(self.check(one, other, random_prices(chance, 3, 0.5) if many else None)))
        self.assertEqual(kinds, {True, False})
        for barred in itertools.product((None, 1), repeat=6):
            prices = [barred[:2], list(barred[2:4]), barred[4:]]
            self.check(Rings(0, 0, 0, 1), Rings.apart(), prices)

    def test_pairs(self):
        for one, other in itertools.product(range(-2, 3), repeat=2):
            for prices in (None, [(1, None)], [(None, 3)], [[2, 5]], [(None, None)]):
                self.check(Pair(one), Pair(other), prices)

    def test_alike_rings_need_none(self):
        for rings in (Pair(7), Pair.apart(), Rings(2, 4, 6, 1), Rings.apart(), Rings(0, 0, 0, -5)):
            for prices in (None, [(None, None)] * len(rings.turns)):
                self.assertEqual(fewest_passes(one=rings, other=rings, prices=prices), Passes(0, ()))

    def test_great_turns(self):
        great = 10 ** 40
        one, other = Rings(great, -great, 6, 3), Rings(-great, 5, 6, -10 ** 35)
        self.assertEqual(fewest_passes(one, other, ((1, great), [7, 1], (1, 1))).parts,
                         (2 * great * great + 7 * (great + 5), (((0, 1), -1, 2 * great, other.last), ((0, 2), 1, great + 5, other.last))))
        self.assertEqual(fewest_passes(Rings(0, 0, 0, great), Rings.apart(), [(great, great), (None, 1), (3, great)]).parts,
                         (great + 3, (((1, 2), 1, 1, 0), ((1, 2), -1, 1, 0))))

    def test_refusals(self):
        for call in (fewest_passes, lambda one, other, prices=None: shows_passes(one, other, None, prices)):
            for value in ODD + GREAT + (Form([0, 1]), (1, 2, 3)):
                refuses(self, BadRing("one"), call, value, "x", "x")
                refuses(self, BadRing("other"), call, Pair(0), value, "x")
            refuses(self, Misfit("rings"), call, Pair(0), Rings(0, 0, 0), "x")
            refuses(self, Misfit("rings"), call, Rings(0, 0, 0), Pair(0))
            for value in ODD[1:] + GREAT + ((), 1, [1], [(1,)], [(1, 2, 3)], [(1, 0)], [(0, 1)], [(True, 1)], [(1, 2.0)],
                                            [(1, -1)], [(1, 1)] * 2, [(1, "1")], (1, 1), [(1, False)], {0: (1, 1)}):
                refuses(self, BadNumber("prices"), call, Pair(0), Pair(1), value)
            for value in ([(1, 1)], [(1, 1)] * 2, [(1, 1)] * 4, [(1, 1), (1, 1), (1, 0)]):
                refuses(self, BadNumber("prices"), call, Rings(0, 0, 0), Rings(0, 0, 0), value)


class ShowsPasses(unittest.TestCase):
    def test_runs_in_another_order_and_cut_in_two(self):
        one, other, last = Rings(2, 4, 6, 1), Rings(4, 4, 3), 0
        right = (((0, 1), 1, 2, last), ((1, 2), -1, 3, last))
        cut = (((1, 2), -1, 1, 5), ((0, 1), 1, 1, -7), ((1, 2), -1, 2, 10 ** 30), ((0, 1), 1, 1, last))
        for runs in (right, right[::-1], cut, [list(run) for run in cut]):
            self.assertIs(shows_passes(one, other, Passes(5, runs)), True)
            self.assertIs(shows_passes(one=one, other=other, value=Passes(8, runs), prices=[(1, 9), (9, 9), (9, 2)]), True)
            for price in (4, 6, 0, 5.0, "5", None):
                self.assertIs(shows_passes(one, other, Passes(price, runs)), False)
        for runs in (right[:1], right + right[1:], (), right + (((0, 2), 1, 1, 0), ((0, 2), -1, 1, 0)),
                     (((0, 1), 1, 3, 0), ((0, 1), -1, 1, 0), right[1]), (right[0], ((1, 2), 1, 3, 0)),
                     (right[0], ((2, 1), -1, 3, 0)), (right[0], ((1, 2), -1, 3)), (right[0], ((1, 2), -3, 1, 0)),
                     (right[0], ((1, 2), 1, -3, 0)), (((0, 1), 1, 0, 0), *right), right[0]):
            price = sum(run[2] for run in runs if isinstance(run, tuple) and len(run) > 2)
            self.assertIs(shows_passes(one, other, Passes(price, runs)), False, runs)
            self.assertIs(shows_passes(one, other, Passes(5, runs)), False, runs)

    def test_the_last_number(self):
        one, other = Rings(0, 0, 0, 1), Rings(0, 3, 0, 2)
        for last in range(-4, 6):
            paper = Passes(3, [((0, 2), 1, 3, last)])
            self.assertIs(shows_passes(one, other, paper), last % 3 == 2)
            self.assertIs(shows_passes(one, other, Passes(3, [((0, 2), 1, 2, last), ((0, 2), 1, 1, 2)])), True)
        for last in (None, True, 2.0, "2", (2,)):
            self.assertIs(shows_passes(one, other, Passes(3, [((0, 2), 1, 3, last)])), False)
            self.assertIs(shows_passes(one, other, Passes(3, [((0, 2), 1, 2, last), ((0, 2), 1, 1, 2)])), False)

    def test_there_and_back(self):
        one, other = Rings(0, 3, 0, 1), Rings(0, 3, 0, 2)
        prices = [(4, 4), (None, 1), (7, 1)]
        for pair, price in (((0, 1), 8), ((1, 2), 8), ((0, 2), 2)):
            for first in (1, -1):
                runs = ((pair, first, 1, 0), (pair, -first, 1, 2))
                self.assertIs(shows_passes(one, other, Passes(2, runs)), True)
                self.assertIs(shows_passes(one, other, Passes(price, runs), prices), price == 8)
        self.assertIs(shows_passes(one, other, Passes(4, runs * 2)), False)
        self.assertIs(shows_passes(one, other, Passes(0, ())), False)
        self.assertIs(shows_passes(one, one, Passes(0, ())), True)
        self.assertIs(shows_passes(one, one, Passes(2, [((0, 1), 1, 1, 0), ((0, 1), -1, 1, 1)])), False)

    def test_barred(self):
        one, other = Rings(0, 0, 0), Rings(1, -1, 2)
        prices = [(None, 1), (1, None), (1, None)]
        for passes in ([((0, 1), 1)], [[[0, 2], -1]]):
            self.assertIs(shows_passes(one, other, Barred(passes), prices), True)
        for passes in ([((0, 1), 1), ((0, 2), -1)], [((1, 2), -1)], [((1, 2), 1)], [((0, 1), -1)], [], ((0, 1), 1),
                       [((1, 0), 1)]):
            self.assertIs(shows_passes(one, other, Barred(passes), prices), False)
        self.assertIs(shows_passes(one, other, Barred([((0, 1), 1)])), False)
        self.assertIs(shows_passes(one, other, Passes(4, [((0, 1), 1, 1, 0), ((0, 2), -1, 1, 0), ((1, 2), 1, 2, 0)]), prices), False)
        last = Rings(0, 0, 0, 1)
        both = [(None, None), (1, None), (None, 2)]
        for first in (1, -1):
            self.assertIs(shows_passes(one, last, Barred([((0, 1), first), ((0, 2), -1), ((1, 2), 1)]), both), True)
        for passes in ([((0, 2), -1), ((0, 1), 1), ((1, 2), 1)], [((0, 1), 1), ((0, 2), -1)], [((0, 1), 1)],
                       [((0, 1), 1), ((0, 2), 1), ((1, 2), 1)], [((0, 1), 1), ((0, 1), -1), ((0, 2), -1), ((1, 2), 1)]):
            self.assertIs(shows_passes(one, last, Barred(passes), both), False)
        self.assertIs(shows_passes(one, one, Barred([]), both), False)
        self.assertIs(shows_passes(one, one, Barred([((0, 1), 1), ((0, 2), -1), ((1, 2), 1)]), both), False)

    def test_any_value(self):
        one, other = Rings(2, 4, 6, 1), Rings(3, 3, 6, 2)
        shows_no_odd_value(self, lambda value: shows_passes(one, other, value), fewest_passes(one, other))
        prices = [(None, 1), (1, 1), (1, 1)]
        shows_no_odd_value(self, lambda value: shows_passes(one, other, value, prices), Barred((((0, 1), 1),)))
        shows_no_odd_value(self, lambda value: shows_passes(one, one, value), Passes(0, ()))
        # Two rings do not look at the last number.
        for value in ODD:
            self.assertIs(shows_passes(Pair(0), Pair(2), Passes(2, [((0, 1), 1, 2, value)])), True)


class ShowsRings(unittest.TestCase):
    def test_all_turns_that_differ(self):
        chance = seeded(4)
        for _ in range(150):
            lot = chance.choice([(0, 1, 2), (0, 2, 4), (1, 3)])
            one, other = random_form(chance, lot, 2, 0.4), random_form(chance, lot, 2, 0.4)
            first, second = rings_of(one), rings_of(other)
            paper = same_rings(one, other)
            self.assertIs(shows_rings(one, other, paper), True)
            for which in range(5):
                turns = [first.turns[which], second.turns[which]] if which < len(first.turns) else [first.last, second.last]
                right = turns[0] != turns[1] and (which < len(first.turns) or which == 3 and first.turns == second.turns)
                self.assertIs(shows_rings(one, other, TwoRings(which, *turns)), right)
                self.assertIs(shows_rings(one, other, TwoRings(which, *turns[::-1])), False)
                self.assertIs(shows_rings(other, one, TwoRings(which, *turns[::-1])), right)
            for times in (-1, 0, 1):
                self.assertIs(shows_rings(one, other, OneRing(times)), paper == OneRing(times))

    def test_put_round(self):
        chance = seeded(5)
        for _ in range(30):
            form, other = random_form(chance, (0, 1, 2), 10 ** 30), random_form(chance, (0, 1, 2), 10 ** 30)
            rounded = put_round(form, other)
            paper = same_rings(form, rounded)
            self.assertIs(shows_rings(one=form, other=rounded, value=paper), True)
            self.assertIs(shows_rings(form, rounded, OneRing(paper.times + 1)), False)

    def test_any_value(self):
        one = Form([0, 1, 2], list(zip(places_of([0, 1, 2]), (2, 4, 6, 5))))
        other = Form([0, 1, 2], list(zip(places_of([0, 1, 2]), (2, 4, 6, 7))))
        far = Form([0, 1, 2], list(zip(places_of([0, 1, 2]), (2, 5, 6, 7))))
        shows_no_odd_value(self, lambda value: shows_rings(one, other, value), OneRing(1))
        shows_no_odd_value(self, lambda value: shows_rings(one, one, value), OneRing(0))
        shows_no_odd_value(self, lambda value: shows_rings(one, far, value), TwoRings(1, 4, 5))

    def test_refusals(self):
        form = Form([0, 1])
        for value in ODD + GREAT + (Tangle([0, 1]), Pair(1)):
            refuses(self, BadForm("one"), shows_rings, value, "x", None)
            refuses(self, BadForm("other"), shows_rings, form, value, None)
        refuses(self, Misfit("lot"), shows_rings, form, Form([0, 2]), None)
        refuses(self, BadForm("lot"), shows_rings, Form([0]), Form([0]), None)


if __name__ == "__main__":
    unittest.main()
