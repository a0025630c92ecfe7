import math
import unittest

from ghostcords.below import below, left_out, undoing
from ghostcords.errors import BadForm, BadLot, BadNumber, BadReading, BadRing, BadText, Misfit, NoCord, TooMany, Twice
from ghostcords.forms import Form, form_of, places_of
from ghostcords.names import readings
from ghostcords.readings import Reading
from ghostcords.rings import Closed, OneRing, Pair, Rings, TwoRings, last_by, opened, put_round, rings_of, same_rings
from ghostcords.rings import same_turns
from ghostcords.tangles import Tangle
from helpers import GREAT, NO_INTEGERS, ODD, all_lots, random_form, random_tangle, refuses, seeded

GREAT_TURNS = (10 ** 30, -6 * 10 ** 31, 10 ** 45 * 4)
PAIRS = ((0, 1), (0, 2), (1, 2))
THREES = [lot for lot in all_lots() if len(lot) == 3]


def random_rings(chance, most=6):
    return Rings(*(chance.randint(-most, most) for _ in range(3)), chance.randint(-9, 9))


class Values(unittest.TestCase):
    def test_attributes(self):
        for turns, divisor in (((2, 4, 6), 2), ((0, 0, 0), 0), ((0, -3, 0), 3), ((-4, 6, 9), 1), ((1, 0, 0), 1),
                               ((10 ** 40, 0, -10 ** 30), 10 ** 30), ((1000, 2000, 0), 1000)):
            for last in (0, 1, -1, 5, -7, 10 ** 50 + 3, -10 ** 50):
                rings = Rings(*turns, last)
                self.assertEqual((rings.turns, rings.divisor), (turns, divisor))
                self.assertEqual(rings.last, last % divisor if divisor else last)
                self.assertEqual(rings, Rings(p=turns[0], q=turns[1], r=turns[2], m=last))
            self.assertEqual(Rings(*turns).last, 0)
        for turn in (0, 1, -5, 10 ** 30):
            pair = Pair(p=turn)
            self.assertEqual((pair.turns, pair.divisor, pair.last), ((turn,), abs(turn), 0))
        self.assertEqual((Pair.SIZE, Rings.SIZE, Pair(1).SIZE), (2, 3, 2))
        self.assertTrue(issubclass(Pair, Closed) and issubclass(Rings, Closed))
        self.assertEqual((Pair(4).pairs(), Rings(1, 2, 3).pairs()), (PAIRS[:1], PAIRS))

    def test_apart(self):
        self.assertEqual([Pair.apart(), Rings.apart()], [Pair(0), Rings(0, 0, 0, 0)])
        self.assertEqual([Pair.apart().is_apart, Rings.apart().is_apart, Rings(0, 0, 0).is_apart], [True] * 3)
        for rings in (Pair(1), Pair(-10 ** 30), Rings(0, 0, 0, 1), Rings(0, 0, 0, -1), Rings(0, 1, 0), Rings(2, 4, 6, 0)):
            self.assertIs(rings.is_apart, False)

    def test_equal(self):
        self.assertTrue(Rings(2, 4, 6, 1) == Rings(2, 4, 6, -7) and not Rings(2, 4, 6, 1) != Rings(2, 4, 6, -7))
        self.assertTrue(Pair(3) == Pair(3) and not Pair(3) != Pair(3))
        for one, other in ((Rings(2, 4, 6, 1), Rings(2, 4, 6)), (Rings(2, 4, 6), Rings(2, 4, 8)), (Pair(0), Pair(1)),
                           (Pair(0), Rings(0, 0, 0)), (Pair(0), (0,)), (Rings(0, 0, 0), None), (Pair(3), 3),
                           (Rings(0, 0, 0, 1), Rings(0, 0, 0, -1))):
            self.assertIs(one == other, False)
            self.assertIs(one != other, True)
            self.assertIs(other == one, False)

    def test_changes(self):
        chance = seeded(1)
        for _ in range(60):
            rings = random_rings(chance)
            p, q, r, m = *rings.turns, rings.last
            self.assertEqual(rings.mirrored(), Rings(-p, -q, -r, m))
            self.assertEqual([rings.backwards(ring) for ring in (0, 1, 2)],
                             [Rings(-p, -q, r, -m), Rings(-p, q, -r, -m), Rings(p, -q, -r, -m)])
            for one, other, turns in ((0, 1, (p, r, q)), (0, 2, (r, q, p)), (1, 2, (q, p, r))):
                self.assertEqual(rings.exchanged(one=one, other=other), Rings(*turns, -m))
                self.assertEqual(rings.exchanged(other, one), Rings(*turns, -m))
            self.assertEqual([rings.without(ring=ring) for ring in (0, 1, 2)], [Pair(r), Pair(q), Pair(p)])
            pair = Pair(p)
            self.assertEqual([pair.mirrored(), pair.backwards(0), pair.backwards(ring=1), pair.exchanged(0, 1)],
                             [Pair(-p), Pair(-p), Pair(-p), Pair(p)])
            self.assertEqual((rings.turns, rings.last), ((p, q, r), m))

    def test_refusals(self):
        for rings in (Pair(2), Rings(1, 2, 3, 4)):
            for value in NO_INTEGERS + (-1, rings.SIZE, 10 ** 30, (0, 1)):
                refuses(self, BadNumber("ring"), rings.backwards, value)
                refuses(self, BadNumber("one"), rings.exchanged, value, "x")
                refuses(self, BadNumber("other"), rings.exchanged, 0, value)
                if rings.SIZE == 3:
                    refuses(self, BadNumber("ring"), rings.without, value)
            refuses(self, Twice(1), rings.exchanged, 1, 1)
        self.assertFalse(hasattr(Pair(2), "without"))


class Integers(unittest.TestCase):
    def test_pairs_of_what_is_no_integer(self):
        for value in NO_INTEGERS + ((1,), "1", Pair(1)):
            refuses(self, BadNumber("p"), Pair, value)
            refuses(self, BadNumber("p"), Pair, p=value)

    def test_rings_of_what_is_no_integer(self):
        for value in NO_INTEGERS + ((2,), "1", Pair(1)):
            for turns in ((0, 0, 0), (2, 4, 6), GREAT_TURNS):
                numbers = [*turns, 4]
                for at, part in enumerate("pqrm"):
                    wrong = numbers[:at] + [value] + numbers[at + 1:]
                    refuses(self, BadNumber(part), Rings, *wrong)
                    refuses(self, BadNumber(part), Rings, **dict(zip("mrqp", wrong[::-1])))
                    if at < 3:
                        refuses(self, BadNumber(part), Rings, *wrong[:3])

    def test_the_first_that_is_none(self):
        for value in NO_INTEGERS:
            for at, part in enumerate("pqrm"):
                wrong = [1, 2, 3, 4][:at] + [value] * (4 - at)
                refuses(self, BadNumber(part), Rings, *wrong)
                refuses(self, BadNumber(part), Rings, **dict(zip("mrqp", wrong[::-1])))
        refuses(self, BadNumber("p"), Rings, "1", "1", 1)
        refuses(self, BadNumber("r"), Rings, 1, 2, True)

    def test_integers_of_any_size_and_sign(self):
        for value in GREAT + (0, -1, 1):
            self.assertEqual((Pair(value).turns, Pair(value).last), ((value,), 0))
            for at in range(3):
                turns = [0] * at + [value] + [0] * (2 - at)
                self.assertEqual((Rings(*turns).turns, Rings(*turns).divisor), (tuple(turns), abs(value)))
            self.assertEqual(Rings(0, 0, 0, value).last, value)
            self.assertEqual(Rings(7, 0, 0, value).last, value % 7)


class Texts(unittest.TestCase):
    def test_there_and_back(self):
        chance = seeded(2)
        for rings in [random_rings(chance) for _ in range(40)] + [Rings(*GREAT_TURNS, 10 ** 29), Rings(0, 0, 0, -10 ** 59),
                                                                  Rings(0, 0, 0, 10 ** 60 - 1)]:
            text = str(rings)
            self.assertEqual(text, " ".join(map(str, rings.turns)) + f" : {rings.last}")
            self.assertEqual(Rings.read(text=text), rings)
        for turn in (0, 7, -7, 10 ** 60 - 1, 1 - 10 ** 60):
            self.assertEqual((str(Pair(turn)), Pair.read(text=str(turn))), (str(turn), Pair(turn)))

    def test_bent_texts(self):
        wrong = ("", "x", "+1", "01", "-0", "--1", "1.0", ":", "-", "1" + "0" * 60, "-1" + "0" * 60, "1\n", "00", "\u0661")
        words = ["2", "-4", "6", ":", "1"]
        for at in range(5):
            for word in wrong:
                if not (at == 3 and word == ":"):
                    refuses(self, BadText(0, at), Rings.read, " ".join(words[:at] + [word] + words[at + 1:]))
            refuses(self, BadText(0, at), Rings.read, " ".join(words[:at]))
        refuses(self, BadText(0, 5), Rings.read, "2 -4 6 : 1 1")
        refuses(self, BadText(0, 5), Rings.read, "2 -4 6 : 1 ")
        refuses(self, BadText(0, 0), Rings.read, " 2 -4 6 : 1")
        refuses(self, BadText(0, 1), Rings.read, "2  -4 6 : 1")
        refuses(self, BadText(0, 3), Rings.read, "2 -4 6 1")
        for word in wrong:
            refuses(self, BadText(0, 0), Pair.read, word)
            refuses(self, BadText(0, 1), Pair.read, "5 " + word)
        refuses(self, BadText(0, 1), Pair.read, "2 -4 6 : 1")
        refuses(self, BadText(0, 1), Rings.read, "2")
        for value in ODD + GREAT + (b"0", ["0"]):
            for kind in (Pair, Rings):
                if value != "0":
                    refuses(self, BadText(0, 0), kind.read, value)

    def test_last_numbers_that_are_not_told_so(self):
        for text in ("2 -4 6 : 2", "2 -4 6 : -1", "1 0 0 : 1", "-3 0 0 : 3", "-3 0 0 : -1", "10 20 30 : 10"):
            refuses(self, BadText(0, 4), Rings.read, text)
            refuses(self, BadText(0, 4), Rings.read, text + " 7")
        for text in ("2 -4 6 : 1", "1 0 0 : 0", "-3 0 0 : 2", "0 0 0 : -5", "10 20 30 : 9"):
            self.assertEqual(str(Rings.read(text)), text)


class OfForms(unittest.TestCase):
    def test_numbers(self):
        chance = seeded(3)
        for lot in THREES:
            form = random_form(chance, lot, 9)
            a, b, c = lot
            numbers = [form.number(*place) for place in ((b, (a,)), (c, (a,)), (c, (b,)), (c, (a, b)))]
            self.assertEqual(rings_of(form=form), Rings(*numbers))
            self.assertEqual([rings_of(left_out(form, cord)) for cord in lot], [rings_of(form).without(k) for k in range(3)])
        self.assertEqual(rings_of(Form([1, 4], [((4, (1,)), -7)])), Pair(-7))
        for value in ODD + GREAT + (Tangle([0, 1]), Pair(1), "0 1 :"):
            refuses(self, BadForm("form"), rings_of, value)
        for lot in all_lots():
            if len(lot) not in (2, 3):
                refuses(self, BadForm("lot"), rings_of, Form(lot))

    def test_opened(self):
        for lot in THREES:
            for rings in (Rings(2, 4, 6, -1), Rings(0, 0, 0, -8), Rings(*GREAT_TURNS, 3)):
                form = opened(rings=rings, lot=list(lot))
                wanted = Form(lot, list(zip(places_of(lot), (*rings.turns, rings.last))))
                self.assertEqual(form, wanted)
                self.assertEqual(rings_of(form), rings)
        self.assertEqual(opened(Pair(-3), (2, 3)), Form([2, 3], [((3, (2,)), -3)]))
        for value in ODD + GREAT + (Form([0, 1]), (2, 4, 6)):
            refuses(self, BadRing("rings"), opened, value, "x")
            refuses(self, BadRing("rings"), lambda rings: list(same_turns(rings)), value)
        for rings, wrong in ((Pair(1), (0, 1, 2)), (Rings(1, 2, 3), (0, 1)), (Pair(1), (1, 0)), (Pair(1), ()),
                             (Rings(1, 2, 3), (0, 1, 2, 3)), (Pair(1), (0,))):
            refuses(self, BadLot("lot"), opened, rings, wrong)
            for value in ODD + GREAT:
                refuses(self, BadLot("lot"), opened, rings, value)

    def test_same_turns(self):
        self.assertEqual(list(same_turns(Rings(6, -9, 0, 2))), [Rings(6, -9, 0, last) for last in range(3)])
        self.assertEqual(list(same_turns(rings=Pair(7))), [Pair(7)])
        self.assertEqual(list(same_turns(Pair(10 ** 30))), [Pair(10 ** 30)])
        self.assertEqual(list(same_turns(Pair(0))), [Pair(0)])
        self.assertEqual([len(list(same_turns(Rings(many, 0, 0)))) for many in (1, 999, 1000)], [1, 999, 1000])
        for rings in (Rings(0, 0, 0, 5), Rings(1001, 0, 0), Rings(*GREAT_TURNS)):
            refuses(self, TooMany("rings", 1000), lambda: list(same_turns(rings)))

    def test_mirrored_backwards_and_exchanged_tangles(self):
        chance = seeded(4)
        for many in range(40):
            lot = chance.choice(THREES)
            tangle = random_tangle(chance, lot, many % 13)
            rings = rings_of(form_of(tangle))
            self.assertEqual(rings_of(form_of(tangle.mirrored())), rings.mirrored())
            turned = Tangle(lot, tangle.crossings[::-1])
            back = rings.backwards(0).backwards(1).backwards(2)
            self.assertEqual(back, Rings(*rings.turns, -rings.last))
            self.assertEqual(rings_of(form_of(turned)), back)
            for place in (0, 1):
                for sign in (1, -1):
                    # Above the tangle one cord is crossed over the next; below it they are brought back.
                    wound = [(place, sign), *tangle.crossings, (place, -sign)]
                    self.assertEqual(rings_of(form_of(Tangle(lot, wound))), rings.exchanged(place, place + 1))

    def test_two_rings(self):
        chance = seeded(5)
        for _ in range(20):
            tangle = random_tangle(chance, (1, 3), 9)
            pair = rings_of(form_of(tangle))
            signs = sum(sign for _, sign in tangle.crossings)
            self.assertEqual(pair, Pair(signs // 2))
            self.assertEqual(rings_of(form_of(tangle.mirrored())), pair.mirrored())


class PutRound(unittest.TestCase):
    def test_turns_stay_and_the_last_number_goes_by_multiples(self):
        chance = seeded(6)
        for many in range(60):
            lot = chance.choice(THREES)
            most = 5 if many % 2 else 10 ** 30
            form, other = random_form(chance, lot, most), random_form(chance, lot, most)
            rounded = put_round(form=form, other=other)
            self.assertEqual(rounded, below(below(other, form), undoing(other)))
            p, q, r, m = (form.number(*place) for place in places_of(lot))
            a, b, c, _ = (other.number(*place) for place in places_of(lot))
            self.assertEqual([rounded.number(*place) for place in places_of(lot)],
                             [p, q, r, m + a * (q - r) + b * (r - p) + c * (p - q)])
            self.assertEqual(rings_of(rounded), rings_of(form))
            paper = same_rings(form, rounded)
            self.assertEqual(type(paper), OneRing)
            divisor = math.gcd(p, q, r)
            self.assertEqual(paper.times * divisor, rounded.number(*places_of(lot)[3]) - m)
        for lot in ((), (2,), (0, 1), (0, 1, 2, 3), (0, 1, 2, 3, 4)):
            form, other = random_form(chance, lot), random_form(chance, lot)
            self.assertEqual(below(put_round(form, other), other), below(other, form))

    def test_refusals(self):
        form = Form([0, 1])
        for value in ODD + GREAT + (Tangle([0, 1]), Pair(1)):
            refuses(self, BadForm("form"), put_round, value, "x")
            refuses(self, BadForm("other"), put_round, form, value)
        refuses(self, Misfit("lot"), put_round, form, Form([0, 2]))


class LastBy(unittest.TestCase):
    def test_read_off_each_cord(self):
        chance = seeded(7)
        for _ in range(60):
            lot = chance.choice(THREES)
            form = random_form(chance, lot, 9)
            p, q, r, m = (form.number(*place) for place in places_of(lot))
            first, middle, last = (last_by(form=form, cord=cord) for cord in lot)
            self.assertEqual((first, middle, last), (m + r * (p - q), m + p * (r - q) + q, m))
            divisor = math.gcd(p, q, r)
            for cord, number in zip(lot, (first, middle, last)):
                rest = tuple(own for own in lot if own != cord)
                start = Reading(rest, [((own,), chance.randint(-5, 5)) for own in rest] + [(rest, chance.randint(-9, 9))])
                cut = last_by(form, cord, start=start)
                at = lot.index(cord)
                pair = (lot[(at + 1) % 3], lot[(at + 2) % 3])
                own = {k: form.number(max(k, cord), (min(k, cord),)) for k in rest}
                moved = start.count(pair[:1]) * own[pair[1]] - start.count(pair[1:]) * own[pair[0]]
                self.assertEqual(cut, number + moved)
                self.assertEqual((cut - m) % divisor if divisor else cut - m, 0)
                self.assertEqual(last_by(form, cord, None), number)

    def test_readings_of_tangles(self):
        chance = seeded(8)
        for lot in THREES[:4]:
            tangle = random_tangle(chance, lot, 11)
            told = dict(zip(lot, readings(tangle)))
            a, b, c = lot
            for cord, pair in ((a, (b, c)), (b, (c, a)), (c, (a, b))):
                self.assertEqual(last_by(form_of(tangle), cord), told[cord].count(pair))

    def test_refusals(self):
        form = Form([0, 2, 3])
        for value in ODD + GREAT + (Tangle([0, 1]), Pair(1)):
            refuses(self, BadForm("form"), last_by, value, "x", "x")
        for lot in all_lots():
            if len(lot) != 3:
                refuses(self, BadForm("lot"), last_by, Form(lot), "x", "x")
        for value in ODD + GREAT + (1, 4, -1, 5):
            refuses(self, NoCord(value), last_by, form, value, "x")
        for value in ODD[1:] + GREAT + (0, ((2, 3),), Form([2, 3])):
            refuses(self, BadReading("start"), last_by, form, 0, value)
        for lot in ((), (2,), (0, 2), (0, 2, 3), (2, 4)):
            refuses(self, Misfit("lot"), last_by, form, 0, Reading(lot))
        self.assertEqual(last_by(form, 0, Reading([2, 3])), 0)


class SameRings(unittest.TestCase):
    def test_papers(self):
        chance = seeded(9)
        kinds = set()
        for _ in range(200):
            lot = chance.choice(THREES)
            one, other = random_form(chance, lot, 2, 0.3), random_form(chance, lot, 2, 0.3)
            first, second = rings_of(one), rings_of(other)
            paper = same_rings(one=one, other=other)
            differing = [at for at in range(3) if first.turns[at] != second.turns[at]]
            kinds.add((bool(paper), bool(differing)))
            if differing:
                at = differing[0]
                self.assertEqual(paper, TwoRings(at, first.turns[at], second.turns[at]))
            elif first.last != second.last:
                self.assertEqual(paper, TwoRings(3, first.last, second.last))
            else:
                self.assertEqual(type(paper), OneRing)
                place = places_of(lot)[3]
                self.assertEqual(other.number(*place), one.number(*place) + paper.times * first.divisor)
                self.assertEqual(paper.times if first.divisor == 0 else 0, 0)
            self.assertIs(bool(paper), first == second)
        self.assertEqual(kinds, {(True, False), (False, False), (False, True)})

    def test_two_cords(self):
        one, other = Form([1, 2], [((2, (1,)), 5)]), Form([1, 2])
        self.assertEqual([same_rings(one, one), same_rings(other, other)], [OneRing(0), OneRing(0)])
        self.assertEqual([same_rings(one, other), same_rings(other, one)], [TwoRings(0, 5, 0), TwoRings(0, 0, 5)])

    def test_great_numbers(self):
        lot = (0, 1, 2)
        places = places_of(lot)
        one = Form(lot, list(zip(places, (*GREAT_TURNS, 7))))
        other = Form(lot, list(zip(places, (*GREAT_TURNS, 7 - 10 ** 60))))
        self.assertEqual(same_rings(one, other), OneRing(-10 ** 30))
        self.assertEqual(same_rings(one, Form(lot, list(zip(places, (*GREAT_TURNS, 8))))), TwoRings(3, 7, 8))

    def test_refusals(self):
        form = Form([0, 1])
        for value in ODD + GREAT + (Tangle([0, 1]), Pair(1)):
            refuses(self, BadForm("one"), same_rings, value, "x")
            refuses(self, BadForm("other"), same_rings, form, value)
        refuses(self, Misfit("lot"), same_rings, form, Form([0, 1, 2, 3]))
        refuses(self, Misfit("lot"), same_rings, Form([]), Form([0]))
        for lot in all_lots():
            if len(lot) not in (2, 3):
                refuses(self, BadForm("lot"), same_rings, Form(lot), Form(lot))


if __name__ == "__main__":
    unittest.main()
