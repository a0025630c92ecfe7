"""The lines that a desk is told: deeds and asks, word by word."""

from ghostcords.checks import CORDS, is_name
from ghostcords.errors import BadText
from ghostcords.forms import Form
from ghostcords.lots import lots_in
from ghostcords.sayings import Saying
from ghostcords.tangles import Tangle
from ghostcords.texts import cord_of, integer_of, need_end, read_key, words_of

DEEDS = ("put", "build", "below", "beside", "back", "slide", "cut", "drop", "over", "tell", "strike")
ASKS = ("names", "show", "reading", "form", "slides", "alike", "past", "held", "loose", "spare", "fewest", "times",
        "root", "when", "whole", "rings", "passes", "lot", "facts", "fact", "book", "try", "word", "clash", "fails")
SLIDES = ("far", "undo", "three")

# What stands behind the first word; LOT is one cord or more, ascending.
SHAPES = {
    "put": "NEW TANGLE",
    "build": "NEW FORM",
    "below": "NEW NAME NAME",
    "beside": "NEW NAME NAME",
    "back": "NEW NAME",
    "slide": "NAME SLIDE N",
    "cut": "NAME C ..",
    "drop": "NAME",
    "over": "LOT",
    "tell": "SAYING",
    "strike": "N ..",
    "names": "",
    "show": "NAME",
    "reading": "NAME C",
    "form": "NAME",
    "slides": "NAME",
    "alike": "NAME NAME",
    "past": "NAME NAME",
    "held": "NAME",
    "loose": "NAME",
    "spare": "NAME",
    "fewest": "NAME",
    "times": "NAME Z",
    "root": "NAME Z",
    "when": "NAME NAME",
    "whole": "NAME ..",
    "rings": "NAME",
    "passes": "NAME",
    "lot": "",
    "facts": "",
    "fact": "N",
    "book": "",
    "try": "SAYING",
    "word": "SAYING",
    "clash": "",
    "fails": "NAME",
}
TO_THE_END = ("LOT", "TANGLE", "FORM", "SAYING")


def first_word(line):
    """The first word of any line, which must be that of a deed or an ask."""
    word = words_of(line)[0]
    if word not in SHAPES:
        raise BadText(0, 0)
    return word


def kinds_of(word):
    """The list of what stands behind the first word of a line."""
    return SHAPES[word].split()


def read_line(line):
    """The tuple of the first word of any line, and of what the others stand for."""
    values = [first_word(line)]
    words = words_of(line)
    # Each value but the last one is one word, so there are as many as words that are read.
    kinds = kinds_of(values[0])
    for at, kind in enumerate(kinds):
        if kind in TO_THE_END:
            return (*values, *read_to_the_end(words, len(values), kind))
        if kind == "..":
            return (*values, *[read_word(words, far, kinds[at - 1]) for far in range(len(values), len(words))])
        values.append(read_word(words, len(values), kind))
    need_end(words, len(values))
    return tuple(values)


def read_word(words, at, kind):
    """What a word of this kind stands for."""
    value = value_of_word(words[at], kind) if at < len(words) else None
    if value is None:
        raise BadText(0, at)
    return value


def value_of_word(word, kind):
    """What a word of this kind stands for, None if it cannot stand."""
    if kind in ("NEW", "NAME"):
        return word if is_name(word) else None
    if kind == "SLIDE":
        return word if word in SLIDES else None
    if kind == "C":
        return cord_of(word)
    return None if kind == "N" and word.startswith("-") else integer_of(word)


def read_to_the_end(words, at, kind):
    """The list of what the words from one on stand for: the cords of a lot, or the value of a text."""
    if kind == "LOT":
        return list(read_key(words, at, lots_in(CORDS, 1), None)[0])
    try:
        return [value_of_text(" ".join(words[at:]), kind)]
    except BadText as error:
        raise BadText(0, at + error.word)


def value_of_text(text, kind):
    """The value whose text this is."""
    if kind == "TANGLE":
        return Tangle.read(text)
    return Form.read(text) if kind == "FORM" else Saying.read(text)
