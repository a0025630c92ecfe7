"""Texts: words with single blanks between, read word by word."""

from ghostcords.errors import BadText
from ghostcords.lots import lies_in

DIGITS = "0123456789"
CORD_DIGITS = "01234"
MOST_DIGITS = 60


def words_of(text):
    """The list of the words of a text, empty ones too."""
    if not isinstance(text, str):
        raise BadText(0, 0)
    return text.split(" ")


def cord_of(word):
    """The cord that a word tells, None if it tells none."""
    return int(word) if len(word) == 1 and word in CORD_DIGITS else None


def integer_of(word):
    """The integer that a word tells, None if it tells none."""
    digits = word[1:] if word.startswith("-") else word
    if not 1 <= len(digits) <= MOST_DIGITS or any([digit not in DIGITS for digit in digits]):
        return None
    if digits.startswith("0") and word != "0":
        return None
    return int(word)


def read_integer(words, at):
    """The integer that a word tells."""
    number = integer_of(words[at]) if at < len(words) else None
    if number is None:
        raise BadText(0, at)
    return number


def need_end(words, at):
    """Raises BadText if there is a word too many."""
    if len(words) > at:
        raise BadText(0, at)


def signed_of(word, most):
    """The pair of a number from 0 to most, at most 4, and a sign that a word tells, or None."""
    number = cord_of(word[1:])
    if not (word.startswith("+") or word.startswith("-")) or number is None or number > most:
        return None
    return (number, 1 if word.startswith("+") else -1)


def signed_word(number, sign):
    """The word that tells a number and a sign."""
    return f"+{number}" if sign == 1 else f"-{number}"


def read_lot(words, least):
    """The lot that the words ahead of a colon tell, of at least so many cords, and where they go on."""
    lot = []
    for at, word in enumerate(words):
        if word == ":" and len(lot) >= least:
            return tuple(lot), at + 1
        cord = cord_of(word)
        if cord is None or (lot and cord <= lot[-1]):
            raise BadText(0, at)
        lot.append(cord)
    raise BadText(0, len(words))


def read_numbers(words, start, keys):
    """The pairs of a key and an integer that the words from start on tell.

    keys are tuples of cords, of which those that are told must come in the order of the keys.
    """
    pairs = []
    at = start
    left = keys
    while at < len(words) or pairs:
        key, at = read_key(words, at, left, "=")
        number = integer_of(words[at + 1]) if at + 1 < len(words) else None
        if not number:
            raise BadText(0, min(at + 1, len(words)))
        pairs.append((key, number))
        left = left[left.index(key) + 1:]
        at += 2
        if at == len(words):
            return pairs
        if words[at] != "/" or not left:
            raise BadText(0, at)
        at += 1
    return pairs


def read_lots(words, start, lots):
    """The lots that the words from start on tell, in the order of these lots, none of which lies in another one."""
    told = []
    at = start
    left = lots
    while at < len(words) or told:
        key, at = read_key(words, at, left, "/")
        told.append(key)
        left = [lot for lot in left[left.index(key) + 1:] if not lies_in(key, lot)]
        if at == len(words):
            return told
        if not left:
            raise BadText(0, at)
        at += 1
    return told


def read_key(words, start, keys, stop):
    """The key that the words from start on tell, up to a word that stops it or the end, and where this is."""
    told = ()
    for at in range(start, len(words)):
        if words[at] == stop and told in keys:
            return told, at
        told = told + (cord_of(words[at]),)
        if all([key[:len(told)] != told for key in keys]):
            raise BadText(0, at)
    if told not in keys:
        raise BadText(0, len(words))
    return told, len(words)


def told_words(lot, pairs):
    """The words of a lot, and of pairs of a key, a tuple of cords, and an integer."""
    return [*cord_words(lot), ":", *with_slashes([[*cord_words(key), "=", str(number)] for key, number in pairs])]


def lots_words(lot, lots):
    """The words of a lot, and of some lots."""
    return [*cord_words(lot), ":", *with_slashes([cord_words(own) for own in lots])]


def cord_words(cords):
    """The words that tell cords."""
    return [str(cord) for cord in cords]


def with_slashes(parts):
    """The words of lists of words, with a slash between two."""
    words = []
    for at, part in enumerate(parts):
        if at > 0:
            words.append("/")
        words.extend(part)
    return words
