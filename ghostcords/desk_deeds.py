"""What deed lines do to what a desk keeps."""

from ghostcords.desk_lines import DEEDS
from ghostcords.knit import knit
from ghostcords.lofts import Loft, told_line
from ghostcords.pictures import without_all
from ghostcords.slides import slid


def changed(loft, line):
    """The pair of the Loft behind a deed line, and the answer."""
    word, *values = told_line(loft, line, DEEDS)
    deed = DONE[word]
    later, number = deed(loft, *values)
    return later, str(number)


def with_things(loft, things):
    """The Loft with these things and the same lot in hand."""
    return Loft(things, loft.lot, loft.facts)


def with_facts(loft, facts):
    """The Loft with these facts about the lot in hand."""
    return Loft(loft.things, loft.lot, facts)


def with_new(loft, new, tangle):
    """The Loft with a tangle behind the others, and how many crossings it has."""
    return with_things(loft, [*loft.things, (new, tangle)]), len(tangle)


def with_changed(loft, name, tangle):
    """The Loft with another tangle in the place of the one under a name."""
    return with_things(loft, [(own, tangle if own == name else thing) for own, thing in loft.things])


def put(loft, new, tangle):
    """A tangle is kept; how many there are."""
    later, _ = with_new(loft, new, tangle)
    return later, len(later.things)


def build(loft, new, form):
    """The knit tangle of a form is kept; how many crossings it has."""
    return with_new(loft, new, knit(form))


def put_below(loft, new, name, other):
    """A tangle with another one below it is kept; how many crossings it has."""
    return with_new(loft, new, loft.thing(name) * loft.thing(other))


def put_beside(loft, new, name, other):
    """A tangle with another one to the right is kept; how many crossings it has."""
    return with_new(loft, new, loft.thing(name).beside(loft.thing(other)))


def put_back(loft, new, name):
    """The undoing of a tangle is kept; how many crossings it has."""
    return with_new(loft, new, ~loft.thing(name))


def slide(loft, name, word, at):
    """A tangle slides; how many crossings it has."""
    tangle = slid(loft.thing(name), word, at)
    return with_changed(loft, name, tangle), len(tangle)


def cut(loft, name, *cords):
    """Cords are left out of a tangle; how many it still has."""
    tangle = without_all(loft.thing(name), cords)
    return with_changed(loft, name, tangle), len(tangle.lot)


def drop(loft, name):
    """A tangle is taken out; how many there are."""
    later = with_things(loft, [thing for thing in loft.things if thing[0] != name])
    return later, len(later.things)


def take_in_hand(loft, *lot):
    """A lot is in hand, without facts; how many cords it has."""
    return Loft(loft.things, lot), len(lot)


def tell(loft, saying):
    """A fact is put behind the others; its number."""
    return with_facts(loft, [*loft.facts, saying]), len(loft.facts)


def strike(loft, *numbers):
    """Facts are taken out; how many are left."""
    book = loft.book.without(numbers)
    return with_facts(loft, book.facts), len(book)


DONE = {
    "put": put,
    "build": build,
    "below": put_below,
    "beside": put_beside,
    "back": put_back,
    "slide": slide,
    "cut": cut,
    "drop": drop,
    "over": take_in_hand,
    "tell": tell,
    "strike": strike,
}
