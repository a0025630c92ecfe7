"""Texts: words with single blanks between, read word by word."""

from ghostcords.errors import BadText

DIGITS = "0123456789"
CORD_DIGITS = "01234"
MOST_DIGITS = 60


def words_of(text):
    """The list of the words of a text, empty ones too."""
    if not isinstance(text, str):
        raise BadText(0, 0)
    return text.split(" ")


def cord_of(word):
    """The cord that a word tells, None if it tells none."""
    return int(word) if len(word) == 1 and word in CORD_DIGITS else None


def integer_of(word):
    """The integer that a word tells, None if it tells none."""
    digits = word[1:] if word.startswith("-") else word
    if not 1 <= len(digits) <= MOST_DIGITS or any([digit not in DIGITS for digit in digits]):
        return None
    if digits.startswith("0") and word != "0":
        return None
    return int(word)


def signed_of(word, most):
    """The pair of a number from 0 to most, at most 4, and a sign that a word tells, or None."""
    number = cord_of(word[1:])
    if not (word.startswith("+") or word.startswith("-")) or number is None or number > most:
        return None
    return (number, 1 if word.startswith("+") else -1)


def signed_word(number, sign):
    """The word that tells a number and a sign."""
    return f"+{number}" if sign == 1 else f"-{number}"


def read_lot(words, least):
    """The lot that the words ahead of a colon tell, of at least so many cords, and where they go on."""
    lot = []
    for at, word in enumerate(words):
        if word == ":" and len(lot) >= least:
            return tuple(lot), at + 1
        cord = cord_of(word)
        if cord is None or (lot and cord <= lot[-1]):
            raise BadText(0, at)
        lot.append(cord)
    raise BadText(0, len(words))


def read_numbers(words, start, keys):
    """The pairs of a key and an integer that the words from start on tell.

    keys are tuples of cords, of which those that are told must come in the order of the keys.
    """
    pairs = []
    at = start
    left = keys
    while at < len(words) or pairs:
        key, at = read_key(words, at, left)
        number = integer_of(words[at]) if at < len(words) else None
        if not number:
            raise BadText(0, at)
        pairs.append((key, number))
        left = left[left.index(key) + 1:]
        at += 1
        if at == len(words):
            return pairs
        if words[at] != "/" or not left:
            raise BadText(0, at)
        at += 1
    return pairs


def read_key(words, start, keys):
    """The first key that the words from start on tell, and the number of the word behind its sign."""
    told = ()
    for at in range(start, len(words)):
        if words[at] == "=" and told in keys:
            return told, at + 1
        told = told + (cord_of(words[at]),)
        if all([key[:len(told)] != told for key in keys]):
            raise BadText(0, at)
    raise BadText(0, len(words))


def told_words(lot, pairs):
    """The words of a lot, and of pairs of a key, a tuple of cords, and an integer."""
    words = [str(cord) for cord in lot]
    words.append(":")
    for at, (key, number) in enumerate(pairs):
        if at > 0:
            words.append("/")
        words.extend([str(cord) for cord in key])
        words.append("=")
        words.append(str(number))
    return words
