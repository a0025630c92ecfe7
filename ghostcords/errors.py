"""The errors of the package: each keeps its fields, as they are passed, in attributes."""


def shown(value):
    """What a message says of a field, which may be any value."""
    return value if isinstance(value, str) else "a value of another kind"


class CordError(ValueError):
    """The base of all errors of the package."""

    def __init__(self, message=""):
        ValueError.__init__(self, message)


class BadRow(CordError):
    """Raised for what is no row, or not one that is asked for."""

    def __init__(self, part):
        super().__init__(f"no such row: {shown(part)}")
        self.part = part


class BadLot(CordError):
    """Raised for what is no lot, or not one that is asked for."""

    def __init__(self, part):
        super().__init__(f"no such lot: {shown(part)}")
        self.part = part


class BadWord(CordError):
    """Raised for what is no word."""

    def __init__(self, part):
        super().__init__(f"no word: {shown(part)}")
        self.part = part


class BadReading(CordError):
    """Raised for what is no reading, or no table of counts."""

    def __init__(self, part):
        super().__init__(f"no reading: {shown(part)}")
        self.part = part


class BadTangle(CordError):
    """Raised for what is no tangle."""

    def __init__(self, part):
        super().__init__(f"no tangle: {shown(part)}")
        self.part = part


class BadForm(CordError):
    """Raised for what is no form."""

    def __init__(self, part):
        super().__init__(f"no form: {shown(part)}")
        self.part = part


class BadFamily(CordError):
    """Raised for what is no family."""

    def __init__(self, part):
        super().__init__(f"no family: {shown(part)}")
        self.part = part


class BadSaying(CordError):
    """Raised for what is no saying."""

    def __init__(self, part):
        super().__init__(f"no saying: {shown(part)}")
        self.part = part


class BadBook(CordError):
    """Raised for what is no book."""

    def __init__(self, part):
        super().__init__(f"no book: {shown(part)}")
        self.part = part


class BadPattern(CordError):
    """Raised for what is no polynomial, pattern or weave."""

    def __init__(self, part):
        super().__init__(f"no pattern: {shown(part)}")
        self.part = part


class BadPicture(CordError):
    """Raised for what are no pictures."""

    def __init__(self, part):
        super().__init__(f"no pictures: {shown(part)}")
        self.part = part


class BadRing(CordError):
    """Raised for what are no rings."""

    def __init__(self, part):
        super().__init__(f"no rings: {shown(part)}")
        self.part = part


class BadNumber(CordError):
    """Raised for what is no integer within its bounds."""

    def __init__(self, part):
        super().__init__(f"no such number: {shown(part)}")
        self.part = part


class BadPaper(CordError):
    """Raised for what is no paper of the class that is asked for."""

    def __init__(self, part):
        super().__init__(f"no such paper: {shown(part)}")
        self.part = part


class BadDesk(CordError):
    """Raised for what is no desk, or nothing that a desk keeps."""

    def __init__(self, part):
        super().__init__(f"no desk: {shown(part)}")
        self.part = part


class Misfit(CordError):
    """Raised for values that do not fit together."""

    def __init__(self, part):
        super().__init__(f"no fit: {shown(part)}")
        self.part = part


class Missing(CordError):
    """Any value that is none here; only the classes below it are raised."""

    def __init__(self, value):
        super().__init__(f"none here: {shown(value)}")
        self.value = value


class NoCord(Missing):
    """Raised for what is no cord, or none of the lot that is asked."""

    def __init__(self, value):
        super().__init__(value)


class NoFact(Missing):
    """Raised for what is the number of no fact."""

    def __init__(self, value):
        super().__init__(value)


class NoName(Missing):
    """Raised for what is no name under which a thing is kept."""

    def __init__(self, value):
        super().__init__(value)


class Twice(CordError):
    """Raised for a value that stands there already."""

    def __init__(self, value):
        super().__init__(f"there already: {shown(value)}")
        self.value = value


class Impossible(CordError):
    """Raised with a denial that shows why there is no answer."""

    def __init__(self, paper):
        super().__init__("impossible, as the paper shows")
        self.paper = paper


class TooMany(CordError):
    """Raised where there are more than most."""

    def __init__(self, what, most):
        super().__init__(f"too many: {shown(what)}")
        self.what = what
        self.most = most


class Nothing(CordError):
    """Raised where there is nothing to take."""

    def __init__(self):
        super().__init__("there is nothing")


class BadText(CordError):
    """Raised for a text in which a word cannot stand, or is missing."""

    def __init__(self, line, word):
        super().__init__("a word that cannot stand, or is missing")
        self.line = line
        self.word = word


class BadLine(CordError):
    """Raised for a line of a desk, with the error raised there."""

    def __init__(self, line, error):
        super().__init__("a line that was refused")
        self.line = line
        self.error = error
