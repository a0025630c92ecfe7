"""What ask lines are answered from what a desk keeps."""

from ghostcords.answers import clash, possible, word_of
from ghostcords.below import below, repeated, root_of
from ghostcords.beside import go_past
from ghostcords.books import Book
from ghostcords.checks import is_within
from ghostcords.cuts import fewest_cut
from ghostcords.desk_lines import ASKS
from ghostcords.errors import NoFact
from ghostcords.families import family_of
from ghostcords.forms import form_of
from ghostcords.holds import least_held, loose, spare
from ghostcords.lofts import told_line
from ghostcords.names import reading
from ghostcords.needs import need_one_lot
from ghostcords.passes import fewest_passes
from ghostcords.real import alike
from ghostcords.rings import rings_of
from ghostcords.slides import slides
from ghostcords.texts import cord_words, with_slashes
from ghostcords.weaves import Weave
from ghostcords.when import alike_for
from ghostcords.whole import whole


def answer_of(loft, line):
    """The answer to an ask line."""
    word, *values = told_line(loft, line, ASKS)
    ask = ANSWERS[word]
    return ask(loft, *values)


def told(words):
    """The answer that has these words, a dash if there are none."""
    return " ".join(words) if words else "-"


def form_under(loft, name):
    """The Form of the tangle under a name."""
    return form_of(loft.thing(name))


def place_words(paper):
    """The words of a denial that tells a cord and a row."""
    return [paper.word, *cord_words((paper.cord, *paper.row))]


def tell_names(loft):
    """The names, in their order."""
    return told(loft.names)


def tell_tangle(loft, name):
    """The text of a tangle."""
    return str(loft.thing(name))


def tell_reading(loft, name, cord):
    """The text of the reading of a cord."""
    return str(reading(loft.thing(name), cord))


def tell_form(loft, name):
    """The text of the form of a tangle."""
    return str(form_under(loft, name))


def tell_slides(loft, name):
    """The slides of a tangle."""
    return told(with_slashes([[word, str(at)] for word, at in slides(loft.thing(name))]))


def tell_alike(loft, name, other):
    """Whether two tangles are alike; if not, what parts them."""
    paper = alike(loft.thing(name), loft.thing(other))
    return paper.word if paper else told(place_words(paper))


def tell_past(loft, name, other):
    """Whether the form of a tangle goes past another one; if not, a place at which both ways differ."""
    paper = go_past(form_under(loft, name), form_under(loft, other))
    return paper.word if paper else told(place_words(paper))


def tell_held(loft, name):
    """The least held lots of a tangle."""
    return told(with_slashes([cord_words(lot) for lot in least_held(form_under(loft, name))]))


def tell_loose(loft, name):
    """The loose cords of a tangle."""
    return told(cord_words(loose(form_under(loft, name))))


def tell_spare(loft, name):
    """The spare cords of a tangle."""
    return told(cord_words(spare(form_under(loft, name))))


def tell_fewest(loft, name):
    """The cords of a cut of as few cords as can be."""
    return told(cord_words(fewest_cut(family_of(form_under(loft, name))).cords))


def tell_times(loft, name, many):
    """The text of a form so many times."""
    return str(repeated(form_under(loft, name), many))


def tell_root(loft, name, many):
    """The text of the root of a form; if there is none, a place that shows it."""
    paper = root_of(form_under(loft, name), many)
    return str(paper.root) if paper else told(place_words(paper))


def tell_when(loft, name, other):
    """For which t two forms, each t times, make what they make below one another, t times."""
    one, its = form_under(loft, name), form_under(loft, other)
    paper = alike_for(Weave([(one, 1, 0), (its, 1, 0)]), Weave([(below(one, its), 1, 0)]))
    return "all" if paper else told([str(t) for t in paper.times])


def tell_whole(loft, *names):
    """The text of the form that pictures of all their cords tell, each lacking one cord."""
    tangles = [loft.thing(name) for name in names]
    lot = sorted(set([cord for tangle in tangles for cord in tangle.lot]))
    paper = whole(lot, tangles)
    return str(paper.form) if paper else paper.word


def tell_rings(loft, name):
    """The text of the rings of a tangle."""
    return str(rings_of(form_under(loft, name)))


def tell_passes(loft, name):
    """The price of the passes that undo the rings of a tangle."""
    rings = rings_of(form_under(loft, name))
    return str(fewest_passes(rings, rings.apart()).price)


def tell_lot(loft):
    """The cords of the lot in hand."""
    return told([] if loft.lot is None else cord_words(loft.lot))


def tell_facts(loft):
    """How many facts there are."""
    return str(len(loft.facts))


def tell_fact(loft, number):
    """The text of a fact."""
    if not is_within(number, 0, len(loft.facts) - 1):
        raise NoFact(number)
    return str(loft.facts[number])


def tell_book(loft):
    """Whether the book is possible."""
    return possible(loft.book).word


def tell_tried(loft, saying):
    """Whether the book would be possible with a fact put in behind the others."""
    return possible(Book(loft.lot, [*loft.facts, saying])).word


def tell_word(loft, saying):
    """Whether a saying is surely, never or either so."""
    return word_of(loft.book, saying).word


def tell_clash(loft):
    """The numbers of the facts that clash."""
    pair = clash(loft.book)
    return told([] if pair is None else [str(number) for number in pair])


def tell_fails(loft, name):
    """The numbers of the facts that are not true of a tangle."""
    tangle = loft.thing(name)
    need_one_lot(tangle.lot, loft.lot)
    family = family_of(form_of(tangle))
    return told([str(number) for number, fact in enumerate(loft.facts) if not fact.is_so(family)])


ANSWERS = {
    "names": tell_names,
    "show": tell_tangle,
    "reading": tell_reading,
    "form": tell_form,
    "slides": tell_slides,
    "alike": tell_alike,
    "past": tell_past,
    "held": tell_held,
    "loose": tell_loose,
    "spare": tell_spare,
    "fewest": tell_fewest,
    "times": tell_times,
    "root": tell_root,
    "when": tell_when,
    "whole": tell_whole,
    "rings": tell_rings,
    "passes": tell_passes,
    "lot": tell_lot,
    "facts": tell_facts,
    "fact": tell_fact,
    "book": tell_book,
    "try": tell_tried,
    "word": tell_word,
    "clash": tell_clash,
    "fails": tell_fails,
}
