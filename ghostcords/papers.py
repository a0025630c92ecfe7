"""Papers, which tell an answer and what shows it, and denials, which say no."""


def fixed(value):
    """The value with each list in it as a tuple, all the way in."""
    if isinstance(value, (list, tuple)):
        return tuple([fixed(item) for item in value])
    return value


class Paper:
    """A word, and the parts that show the answer."""

    def __init__(self, word, *parts):
        self.word = word
        self.parts = fixed(parts)

    def __eq__(self, other):
        return isinstance(other, Paper) and type(self) is type(other) and same_contents(self, other)

    def __bool__(self):
        return True


class Denial(Paper):
    """A paper that says no: it is false."""

    def __init__(self, word, *parts):
        super().__init__(word)
        self.parts = fixed(parts)

    def __eq__(self, other):
        return isinstance(other, Paper) and type(self) is type(other) and same_contents(self, other)

    def __bool__(self):
        return False


def same_contents(one, other):
    """Whether two papers have the same word and the same parts."""
    return one.word == other.word and one.parts == other.parts
