"""The desk, which keeps tangles and answers line by line."""

from ghostcords.checks import is_name
from ghostcords.desk_asks import answer_of
from ghostcords.desk_deeds import changed
from ghostcords.desk_lines import ASKS, first_word
from ghostcords.errors import BadDesk, BadLine, CordError, Nothing
from ghostcords.lofts import Loft


class Desk:
    """A desk: its loft, and its story, the deed lines done and not taken back."""

    def __init__(self):
        self.loft = Loft()
        self.story = ()
        # The loft ahead of each line of the story, and the pairs of a line taken back and the loft behind it.
        self._lofts = []
        self._undone = []

    def __len__(self):
        return len(self.loft.facts)

    def __contains__(self, value):
        return is_name(value) and value in self.loft.names

    def __eq__(self, other):
        return isinstance(other, Desk) and self.loft == other.loft

    def __call__(self, line):
        """The answer to a line."""
        if first_word(line) in ASKS:
            return answer_of(self.loft, line)
        later, answer = changed(self.loft, line)
        self._go_on(line, later)
        self._undone = []
        return answer

    def told(self, *lines):
        """The tuple of the answers to these lines; if one is refused, none is done."""
        trial = self.twin()
        answers = []
        for index, line in enumerate(lines):
            try:
                answers.append(trial(line))
            except CordError as error:
                raise BadLine(index, error)
        self._become(trial)
        return tuple(answers)

    def tried(self, *lines):
        """The tuple of the answers to these lines, none of which is done."""
        return self.twin().told(*lines)

    def undo(self):
        """The last line of the story, which is taken back."""
        if not self._lofts:
            raise Nothing()
        line = self.story[-1]
        self._undone.append((line, self.loft))
        self.loft = self._lofts.pop()
        self.story = self.story[:-1]
        return line

    def redo(self):
        """The line that was taken back last, which is done again."""
        if not self._undone:
            raise Nothing()
        line, later = self._undone.pop()
        self._go_on(line, later)
        return line

    def twin(self):
        """A desk that is in all as this one."""
        desk = Desk()
        desk._become(self)
        return desk

    def _go_on(self, line, later):
        """Puts a line behind the story, which leads to a later loft."""
        self._lofts.append(self.loft)
        self.loft = later
        self.story = self.story + (line,)

    def _become(self, other):
        """Takes over all that another desk has."""
        self.loft = other.loft
        self.story = other.story
        self._lofts = list(other._lofts)
        self._undone = list(other._undone)


def need_desk(value, part):
    """Raises BadDesk for what is no Desk."""
    if not isinstance(value, Desk):
        raise BadDesk(part)
