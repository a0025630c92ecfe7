import unittest

from ghostcords.answers import clash, possible, word_of
from ghostcords.below import below, repeated, root_of
from ghostcords.beside import go_past
from ghostcords.books import Book
from ghostcords.cuts import fewest_cut
from ghostcords.desk_asks import answer_of
from ghostcords.desk_lines import DEEDS
from ghostcords.errors import BadDesk, BadForm, BadLot, BadNumber, BadPicture, BadSaying, BadText, Impossible, Misfit, NoCord
from ghostcords.errors import NoFact, NoName, Nothing, TooMany
from ghostcords.families import family_of
from ghostcords.forms import form_of
from ghostcords.holds import least_held, loose, spare
from ghostcords.lofts import Loft
from ghostcords.names import reading
from ghostcords.passes import fewest_passes
from ghostcords.pictures import pictures
from ghostcords.real import alike
from ghostcords.rings import Pair, Rings, rings_of
from ghostcords.sayings import Falls, Free, Held, Least, Spare
from ghostcords.slides import slides
from ghostcords.tangles import Tangle
from ghostcords.whole import whole
from helpers import GREAT, ODD, random_tangle, refuses, seeded

WOUND = Tangle.read("0 1 2 : -1 +0 +0 +1")
STRAIGHT = Tangle([0, 1, 2])
BORROMEAN = Tangle.read("0 1 2 : -1 +0 +0 +1 +1 +1 -1 -0 -0 +1 -1 -1")


def words(parts):
    return " ".join(str(part) for part in parts) if parts else "-"


def slashed(lots):
    return " / ".join(words(lot) for lot in lots) if lots else "-"


def some_loft(seed):
    chance = seeded(seed)
    lots = [(0, 1, 2), (0, 1, 2), (1, 3), (1, 3), (0, 1, 2, 3, 4), (0, 1, 2, 3, 4), (2,), (0, 2, 3, 4), (0, 2, 3, 4)]
    things = [(f"t{at}", random_tangle(chance, lot, 9)) for at, lot in enumerate(lots)]
    return Loft(things, (0, 1, 2), [Held([0, 1]), Free([1, 2]), Held([0, 2])])


class Tangles(unittest.TestCase):
    def setUp(self):
        self.lofts = [some_loft(seed) for seed in range(3)]

    def ask(self, loft, line, answer):
        self.assertEqual(answer_of(loft=loft, line=line), answer)

    def test_names(self):
        self.ask(Loft(), "names", "-")
        self.ask(Loft([("z", WOUND)]), "names", "z")
        self.ask(self.lofts[0], "names", "t0 t1 t2 t3 t4 t5 t6 t7 t8")

    def test_one_tangle(self):
        for loft in self.lofts:
            for name, tangle in loft.things:
                form = form_of(tangle)
                self.ask(loft, f"show {name}", str(tangle))
                self.ask(loft, f"form {name}", str(form))
                for cord in tangle.lot:
                    self.ask(loft, f"reading {name} {cord}", str(reading(tangle, cord)))
                self.ask(loft, f"slides {name}", slashed(slides(tangle)))
                self.ask(loft, f"held {name}", slashed(least_held(form)))
                self.ask(loft, f"loose {name}", words(loose(form)))
                self.ask(loft, f"spare {name}", words(spare(form)))
                self.ask(loft, f"fewest {name}", words(fewest_cut(family_of(form)).cords))
                for many in (-3, 0, 1, 2, 10 ** 30):
                    self.ask(loft, f"times {name} {many}", str(repeated(form, many)))
                    if many:
                        paper = root_of(form, many)
                        told = str(paper.root) if paper else words(["noroot", paper.cord, *paper.row])
                        self.ask(loft, f"root {name} {many}", told)

    def test_straight_cords(self):
        loft = Loft([("a", STRAIGHT), ("b", Tangle([3]))])
        for line, answer in (("show a", "0 1 2 :"), ("form a", "0 1 2 :"), ("reading a 1", "0 2 :"), ("slides a", "-"),
                             ("held a", "-"), ("loose a", "0 1 2"), ("spare a", "0 1 2"), ("fewest a", "-"), ("times a 5", "0 1 2 :"),
                             ("root a 5", "0 1 2 :"), ("root a -7", "0 1 2 :"), ("rings a", "0 0 0 : 0"), ("passes a", "0"),
                             ("reading b 3", ":"), ("form b", "3 :"), ("when a a", "all"), ("alike a a", "alike"),
                             ("past a a", "past"), ("lot", "-"), ("fewest b", "-"), ("loose b", "3"), ("when b b", "all")):
            self.ask(loft, line, answer)

    def test_two_tangles(self):
        seen = set()
        for loft in self.lofts + [Loft([("a", WOUND), ("b", WOUND * ~BORROMEAN), ("c", BORROMEAN), ("d", STRAIGHT)])]:
            for name, one in loft.things:
                for its_name, other in loft.things:
                    if one.lot != other.lot:
                        for word in ("alike", "past", "when"):
                            refuses(self, Misfit("lot"), answer_of, loft, f"{word} {name} {its_name}")
                        continue
                    paper = alike(one, other)
                    self.ask(loft, f"alike {name} {its_name}", "alike" if paper else words(["parted", paper.cord, *paper.row]))
                    paper = go_past(form_of(one), form_of(other))
                    self.ask(loft, f"past {name} {its_name}", "past" if paper else words(["crosswise", paper.cord, *paper.row]))
                    seen.add(self.check_when(loft, name, its_name))
        self.assertEqual(len(seen), 2)

    def check_when(self, loft, name, its_name):
        one, other = form_of(loft.thing(name)), form_of(loft.thing(its_name))
        answer = answer_of(loft, f"when {name} {its_name}")
        both = below(one, other)
        told = {t: below(repeated(one, t), repeated(other, t)) == repeated(both, t) for t in range(-5, 6)}
        for t, right in told.items():
            self.assertIs(right, answer == "all" or str(t) in answer.split())
        self.assertTrue(told[0] and told[1])
        return answer == "all"

    def test_when(self):
        loft = Loft([("e", Tangle.read("0 1 2 : -1 +0 +0 +1")), ("f", Tangle.read("0 1 2 : +1 +1"))])
        self.ask(loft, "when e f", "0 1")
        self.ask(loft, "when e e", "all")
        self.ask(loft, "past e f", "crosswise 2 0 1")
        self.ask(loft, "past f e", "crosswise 2 0 1")

    def test_whole(self):
        chance = seeded(7)
        for lot in ((0, 1), (1, 2, 4), (0, 1, 2, 3), (0, 1, 2, 3, 4)):
            tangle = random_tangle(chance, lot, 9)
            loft = Loft([(f"p{at}", picture) for at, picture in enumerate(pictures(tangle))])
            line = "whole " + " ".join(loft.names)
            self.ask(loft, line, str(whole(lot, pictures(tangle)).form))
            if len(lot) > 2:
                refuses(self, BadPicture("lots"), answer_of, loft, "whole " + " ".join(loft.names[::-1]))
                refuses(self, BadPicture("number"), answer_of, loft, line + " p0")
                refuses(self, BadPicture("lots"), answer_of, loft, line.replace("p1", "p0"))
        things = [("a", Tangle([1, 2, 3])), ("b", Tangle([0, 2, 3])), ("c", Tangle([0, 1, 3])),
                  ("d", Tangle([0, 1, 2], [(0, 1), (0, 1)]))]
        self.ask(Loft(things), "whole a b c d", "torn")
        refuses(self, BadPicture("number"), answer_of, Loft(things), "whole a")
        refuses(self, BadPicture("number"), answer_of, Loft(things), "whole a b")
        refuses(self, BadLot("lot"), answer_of, Loft([("a", Tangle([3]))]), "whole a")
        refuses(self, BadLot("lot"), answer_of, Loft([("a", Tangle([3]))]), "whole a a a")

    def test_rings_and_passes(self):
        for loft in self.lofts + [Loft([("a", BORROMEAN), ("b", BORROMEAN * WOUND)])]:
            for name, tangle in loft.things:
                if len(tangle.lot) not in (2, 3):
                    for word in ("rings", "passes"):
                        refuses(self, BadForm("lot"), answer_of, loft, f"{word} {name}")
                    continue
                rings = rings_of(form_of(tangle))
                self.ask(loft, f"rings {name}", str(rings))
                apart = Pair.apart() if len(tangle.lot) == 2 else Rings.apart()
                self.ask(loft, f"passes {name}", str(fewest_passes(rings, apart).price))
        self.ask(Loft([("a", BORROMEAN)]), "passes a", "2")
        self.ask(Loft([("a", BORROMEAN)]), "rings a", "0 0 0 : 1")


class TheHand(unittest.TestCase):
    def test_lot_and_facts(self):
        loft = some_loft(0)
        for line, answer in (("lot", "0 1 2"), ("facts", "3"), ("fact 0", "held 0 1"), ("fact 1", "free 1 2"), ("fact 2", "held 0 2"),
                             ("book", "kept"), ("clash", "-"), ("try free 0 1 2", "notkept"), ("try held 0 1", "kept")):
            self.assertEqual(answer_of(loft, line), answer)
        for line, answer in (("lot", "4"), ("facts", "0"), ("book", "kept"), ("clash", "-")):
            self.assertEqual(answer_of(Loft((), [4]), line), answer)

    def test_books(self):
        lofts = [Loft((), (0, 1, 2, 3), facts) for facts in
                 ((), [Held([0, 1])], [Held([0, 1]), Free([0, 2, 3]), Held([0, 1, 2])], [Free([0, 1, 2]), Held([2, 3]), Held([0, 1])])]
        sayings = [Held([0, 1, 3]), Free([0, 2]), Least([0, 1]), Spare(0), Spare(2), Falls(0), Falls(1), Held([0, 1])]
        for loft in lofts:
            self.assertEqual(answer_of(loft, "book"), possible(loft.book).word)
            pair = clash(loft.book)
            self.assertEqual(answer_of(loft, "clash"), words(pair))
            for saying in sayings:
                if pair is None:
                    self.assertEqual(answer_of(loft, f"word {saying}"), word_of(loft.book, saying).word)
                else:
                    refuses(self, Impossible(possible(loft.book)), answer_of, loft, f"word {saying}")
                if isinstance(saying, (Held, Free)):
                    tried = possible(Book(loft.lot, [*loft.facts, saying]))
                    self.assertEqual(answer_of(loft, f"try {saying}"), tried.word)
        self.assertEqual(answer_of(lofts[3], "clash"), "2 0")
        self.assertEqual(answer_of(lofts[3], "book"), "notkept")

    def test_fails(self):
        for seed in range(6):
            loft = some_loft(seed)
            for name, tangle in loft.things:
                if tangle.lot != loft.lot:
                    refuses(self, Misfit("lot"), answer_of, loft, f"fails {name}")
                else:
                    family = family_of(form_of(tangle))
                    wrong = [number for number, fact in enumerate(loft.facts) if not fact.is_so(family)]
                    self.assertEqual(answer_of(loft, f"fails {name}"), words(wrong))
        loft = Loft([("a", BORROMEAN)], [0, 1, 2], [Held([0, 1]), Held([0, 1, 2]), Free([0, 1, 2]), Free([1, 2])])
        self.assertEqual(answer_of(loft, "fails a"), "0 2")
        self.assertEqual(answer_of(Loft([("a", STRAIGHT)], [0, 1, 2]), "fails a"), "-")


class Refusals(unittest.TestCase):
    def test_lofts_and_lines(self):
        loft = some_loft(0)
        for value in ODD + GREAT + (loft.things, Tangle([0]), 0):
            refuses(self, BadDesk("loft"), answer_of, value, None)
        for value in ODD + GREAT + ("", "nam", " names"):
            if value != "word":
                refuses(self, BadText(0, 0), answer_of, loft, value)
        for word in DEEDS:
            for rest in ("", " t0", " new t0 t0", " 0", " x", " 0 1", " new 0 :"):
                refuses(self, BadText(0, 0), answer_of, loft, word + rest)
        refuses(self, BadText(0, 2), answer_of, Loft(), "alike x")

    def test_nothing_in_hand(self):
        bare = Loft(some_loft(0).things)
        for line in ("facts", "fact 0", "book", "try falls 1", "try held 0 1", "word held 3 4", "clash", "fails x", "fails t0"):
            refuses(self, Nothing(), answer_of, bare, line)
        for line, at in (("facts 1", 1), ("fact", 1), ("try", 1), ("word held 0", 3), ("fails", 1), ("fails t0 t0", 2)):
            refuses(self, BadText(0, at), answer_of, bare, line)

    def test_names_that_are_none(self):
        loft = some_loft(0)
        for word in ("show", "form", "slides", "held", "loose", "spare", "fewest", "rings", "passes", "fails"):
            refuses(self, NoName("x"), answer_of, loft, f"{word} x")
        for word in ("alike", "past", "when"):
            refuses(self, NoName("x"), answer_of, loft, f"{word} x y")
            refuses(self, NoName("y"), answer_of, loft, f"{word} t0 y")
        refuses(self, NoName("x"), answer_of, loft, "reading x 4")
        refuses(self, NoName("x"), answer_of, loft, "times x 0")
        refuses(self, NoName("x"), answer_of, loft, "root x 0")
        refuses(self, NoName("x"), answer_of, loft, "whole t0 t1 x y")

    def test_errors_of_the_functions(self):
        loft = some_loft(0)
        refuses(self, NoCord(3), answer_of, loft, "reading t0 3")
        refuses(self, BadNumber("many"), answer_of, loft, "root t0 0")
        for number in (3, 12, 10 ** 60 - 1):
            refuses(self, NoFact(number), answer_of, loft, f"fact {number}")
        refuses(self, NoCord(4), answer_of, loft, "word least 1 4")
        refuses(self, NoCord(3), answer_of, loft, "word spare 3")
        for saying in ("least 0 1", "spare 4", "falls 0"):
            refuses(self, BadSaying("facts"), answer_of, loft, f"try {saying}")
        refuses(self, NoCord(3), answer_of, loft, "try free 0 3 4")
        refuses(self, TooMany("facts", 12), answer_of, Loft((), [0, 1], [Held([0, 1])] * 12), "try held 0 1")
        self.assertEqual(answer_of(Loft((), [0, 1], [Held([0, 1])] * 11), "try held 0 1"), "kept")


if __name__ == "__main__":
    unittest.main()
