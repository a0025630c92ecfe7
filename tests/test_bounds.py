"""Answers come in a short time within the bounds that the document names, whatever the numbers."""

import time
import unittest

from ghostcords.answers import greatest_family, struck, word_of
from ghostcords.below import Root, below, repeated, root_of, undoing
from ghostcords.beside import go_past
from ghostcords.books import Book
from ghostcords.check_answers import shows_word
from ghostcords.check_below import shows_past, shows_root
from ghostcords.check_rings import shows_passes
from ghostcords.cuts import cheapest_cut, is_cut
from ghostcords.desk import Desk
from ghostcords.families import families, family_of, form_for
from ghostcords.forms import Form, form_of, places_of
from ghostcords.ghosts import put_in, swaps
from ghostcords.knit import crossings_of
from ghostcords.names import names_behind, readings
from ghostcords.passes import fewest_passes
from ghostcords.patterns import Pattern
from ghostcords.pictures import pictures
from ghostcords.readings import Reading
from ghostcords.real import alike, all_readings, real
from ghostcords.rings import Rings, last_by, put_round, rings_of, same_rings
from ghostcords.sayings import Falls, Free, Held, Least, Spare
from ghostcords.slides import slides
from ghostcords.stories import merged, replay
from ghostcords.tables import fits
from ghostcords.weaves import Weave, number_of
from ghostcords.when import alike_for, free_for
from ghostcords.whole import told_of, whole
from ghostcords.windings import exponents, from_exponents, leading_rows, letters_of
from helpers import all_rows, random_form, random_tangle, random_word, seeded

LOT = (0, 1, 2, 3, 4)
MOST_SECONDS = 10


class Bounds(unittest.TestCase):
    def setUp(self):
        self.start = time.process_time()

    def tearDown(self):
        self.assertLess(time.process_time() - self.start, MOST_SECONDS)

    def test_words_of_sixty_letters(self):
        word = random_word(seeded(1), 60)
        self.assertEqual([word.count(row) for row in all_rows(LOT)][1:], [count for _, count in Reading.of(word, LOT).counts()])
        for at in range(61):
            self.assertTrue(swaps(put_in(word, at, 0, 1)))
        reading = Reading.of(word, LOT)
        self.assertEqual(from_exponents(LOT, exponents(reading)), reading)
        self.assertTrue(fits(LOT, reading.counts()))

    def test_tangles_of_sixty_crossings(self):
        tangle = random_tangle(seeded(2), LOT, 54)
        self.assertLessEqual(len(tangle), 66)
        for many in range(0, len(tangle) + 1, 6):
            self.assertEqual(len(names_behind(tangle, many)), 5)
        self.assertTrue(alike(tangle, tangle))
        self.assertTrue(real(LOT, readings(tangle)))
        self.assertEqual(all_readings(form_of(tangle)), readings(tangle))
        self.assertLess(len(slides(tangle)), len(tangle))

    def test_forms_of_long_tangles(self):
        half = random_tangle(seeded(3), LOT, 60)
        self.assertEqual(form_of(half * ~half), Form(LOT))

    def test_great_numbers(self):
        for great in (10 ** 25, 10 ** 60 + 1, -10 ** 500):
            form = Form(LOT, [(place, great + at) for at, place in enumerate(places_of(LOT))])
            self.assertEqual(real(LOT, all_readings(form)).form, form)
            self.assertGreater(crossings_of(form), abs(great))
            reading = Reading(LOT, [(row, great + at) for at, row in enumerate(leading_rows(LOT))])
            self.assertGreater(letters_of(reading), abs(great))
            self.assertEqual(reading.repeated(great).root(great), reading)
            self.assertEqual(~~(reading * reading), reading.repeated(2))
            self.assertEqual(fits(LOT, reading.counts()).leads, reading.leads)

    def test_forms_below_one_another(self):
        for great in (10 ** 25, 10 ** 60 + 1, -10 ** 500):
            one = Form(LOT, [(place, great + at) for at, place in enumerate(places_of(LOT))])
            other = Form(LOT, [(place, great - at * at) for at, place in enumerate(places_of(LOT))])
            start = time.process_time()
            for _ in range(20):
                both = below(one, other)
                times = repeated(both, great)
                self.assertEqual(root_of(times, great).root, both)
                self.assertEqual(below(undoing(both), both), Form(LOT))
                self.assertFalse(go_past(one, other))
            self.assertLess(time.process_time() - start, 3)
            self.assertTrue(shows_root(times, great, Root(both)))
            self.assertTrue(shows_past(one, other, go_past(one, other)))

    def test_families_and_cuts(self):
        start = time.process_time()
        for family in families(4):
            for prices in ((1, 1, 1, 1), (10 ** 30, 1, 2, 10 ** 30 + 1)):
                self.assertTrue(is_cut(family, cheapest_cut(family, prices).cords))
            self.assertEqual(family_of(form_for(family)), family)
        self.assertLess(time.process_time() - start, 2)

    def test_books_of_twelve_facts(self):
        helds = [Held(lot) for lot in ((0, 1), (1, 2), (2, 3), (3, 4), (0, 2, 4), (1, 3, 4))]
        frees = [Free(lot) for lot in ((0, 4), (1, 4), (0, 3), (2, 4), (1, 3), (0, 2))]
        book = Book(LOT, helds + frees)
        start = time.process_time()
        for _ in range(10):
            for saying in [Spare(cord) for cord in LOT] + [Falls(many) for many in range(6)]:
                self.assertTrue(shows_word(book, saying, word_of(book, saying)))
            for lot in greatest_family(book).all_held():
                for saying in (Held(lot), Free(lot), Least(lot)):
                    self.assertTrue(shows_word(book, saying, word_of(book, saying)))
            self.assertEqual(struck(book).numbers, ())
            self.assertEqual(len(struck(Book(LOT, helds + [Free(LOT)] * 6)).numbers), 6)
        self.assertLess(time.process_time() - start, 3)

    def test_weaves_and_patterns(self):
        chance = seeded(4)
        for great in (2, 10 ** 30):
            one, other = (Weave([(random_form(chance, LOT, great), chance.randint(-great, great), chance.randint(-great, great))
                                 for _ in range(6)]) for _ in range(2))
            start = time.process_time()
            form = one.at(-great)
            for cord, row in places_of(LOT):
                self.assertEqual(number_of(one, cord, row).at(-great), form.number(cord, row))
            for _ in range(3):
                self.assertFalse(alike_for(Weave(one.blocks), Weave(other.blocks)))
                self.assertTrue(alike_for(Weave(one.blocks), one))
                self.assertFalse(free_for(Weave(one.blocks), LOT))
            one, other = (Pattern([(random_word(chance, 12), chance.randint(-great, great), chance.randint(-great, great))
                                   for _ in range(12)]) for _ in range(2))
            for _ in range(2):
                self.assertFalse(alike_for(one, other))
            self.assertLess(time.process_time() - start, 4)

    def test_pictures_of_long_tangles(self):
        tangle = random_tangle(seeded(5), LOT, 54)
        start = time.process_time()
        for many in (1, 2, 3, 4):
            shown = pictures(tangle, many)
            self.assertTrue(whole(LOT, shown, many))
            self.assertEqual(len(told_of(LOT, shown, many)), 2)
        self.assertLess(time.process_time() - start, 2)

    def test_rings_of_great_numbers(self):
        lot = (0, 1, 2)
        start = time.process_time()
        for great in (10 ** 25, 10 ** 60 + 1, -10 ** 500):
            form = Form(lot, [(place, great * (at + 2)) for at, place in enumerate(places_of(lot))])
            for other in (form, undoing(form), repeated(form, great)):
                self.assertTrue(same_rings(form, put_round(form, other)))
            self.assertEqual(rings_of(form), Rings(2 * great, 3 * great, 4 * great, 0))
            self.assertEqual((last_by(form, 0) - last_by(form, 2)) % great, 0)
            paper = fewest_passes(rings_of(form), Rings.apart(), [(abs(great), 1), (7, abs(great)), (3, 3)])
            self.assertTrue(shows_passes(rings_of(form), Rings.apart(), paper, [(abs(great), 1), (7, abs(great)), (3, 3)]))
        self.assertLess(time.process_time() - start, 2)

    def test_a_desk_of_long_tangles(self):
        desk, chance = Desk(), seeded(6)
        start = time.process_time()
        for name in ("a", "b"):
            desk(f"put {name} {random_tangle(chance, LOT, 54)}")
        desk.told("over 0 1 2 3 4", *["tell held 0 1", "tell held 2 3 4", "tell free 0 2"] * 4)
        for line in ("reading a 4", "form a", "slides a", "alike a b", "past a b", "held a", "fewest a", "root a -7", "when a b",
                     "times a " + "9" * 60, "book", "word falls 2", "word spare 1", "clash", "fails a"):
            self.assertTrue(desk(line))
        self.assertLess(time.process_time() - start, 2)

    def test_long_stories(self):
        desk = Desk()
        start = time.process_time()
        desk("put a 0 1 2 : +0 +0")
        for _ in range(100):
            desk.told("back b a", "below c a b", "slide c undo 1", "drop b", "drop c")
        self.assertEqual(replay(desk.story), desk)
        twin = desk.twin()
        twin("put x 0 :")
        self.assertEqual(merged(desk, twin)[1], ())
        for _ in range(501):
            desk.undo()
        for _ in range(501):
            desk.redo()
        self.assertLess(time.process_time() - start, 2)


if __name__ == "__main__":
    unittest.main()
