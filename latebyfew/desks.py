"""A desk: a town that is changed deed by deed, with towns that are kept under words."""

from latebyfew.deeds import after_deed, is_mark_word, marked_town
from latebyfew.errors import BadDeed, BadText, BadWord, NothingToRedo, NothingToUndo
from latebyfew.plans import staircase
from latebyfew.towns import check_town, town_from, written


class Desk:
    """A town and its marks, with deeds that can be undone and done again."""

    def __init__(self, town):
        check_town(town)
        self._state = (town, ())
        # The states before each deed that can be undone, and behind each one that can be done again.
        self._before = []
        self._behind = []

    def __eq__(self, other):
        return isinstance(other, Desk) and self._state == other._state

    def town(self):
        """The town as it is now."""
        return self._state[0]

    def marks(self):
        """The ascending tuple of the pairs (word, town) that are kept."""
        return self._state[1]

    def text(self):
        """The text of the town and of the marks."""
        parts = [written(self.town())]
        for word, town in self.marks():
            parts.append(f"mark {word}")
            parts.append(written(town))
        return "\n".join(parts)

    def copied(self):
        """An equal desk with the same deeds to undo and redo that goes its own way."""
        other = Desk(self.town())
        other._state = self._state
        other._before = list(self._before)
        other._behind = list(self._behind)
        return other

    def do(self, deed):
        """Do a deed; what was undone cannot be done again any more."""
        state = after_deed(self.town(), self.marks(), deed)
        if state is None:
            raise BadDeed(deed)
        self._before.append(self._state)
        self._behind = []
        self._state = state

    def undo(self):
        """Undo the last deed."""
        if not self._before:
            raise NothingToUndo()
        self._behind.append(self._state)
        self._state = self._before.pop()

    def redo(self):
        """Do again what was undone last."""
        if not self._behind:
            raise NothingToRedo()
        self._before.append(self._state)
        self._state = self._behind.pop()

    def stairs(self, vans):
        """The staircase of the town."""
        return staircase(self.town(), vans)

    def dearer(self, word, vans):
        """The pairs of the least costs of the marked town and of the town, step by step."""
        marked = marked_town(self.marks(), word)
        if marked is None:
            raise BadWord(word)
        old = staircase(marked, vans)
        new = staircase(self.town(), vans)
        return tuple([(step_at(old, g), step_at(new, g)) for g in range(max(len(old), len(new)))])


def step_at(steps, g):
    """The step of a staircase for g; it goes on with its last item."""
    return steps[min(g, len(steps) - 1)]


def read_desk(text):
    """The desk with a text; BadText with the number of the first wrong line, or of the first one that is missing."""
    if not isinstance(text, str):
        raise BadText(0)
    lines = text.split("\n")
    town, at = town_of_lines(lines, 0)
    desk = Desk(town)
    marks = []
    while at < len(lines):
        word = mark_word(lines[at])
        if word is None or (marks and word <= marks[-1][0]):
            raise BadText(at + 1)
        town, at = town_of_lines(lines, at + 1)
        marks.append((word, town))
    desk._state = (desk.town(), tuple(marks))
    return desk


def town_of_lines(lines, start):
    """The town whose text begins at a line, and the position of the line behind it; BadText if none does."""
    found = town_from(lines, start) if start < len(lines) else (None, start)
    if found[0] is None:
        raise BadText(start + 1)
    return found


def mark_word(line):
    """The word of a line that is one of a mark; None if it is none."""
    parts = line.split(" ")
    return parts[1] if len(parts) == 2 and parts[0] == "mark" and is_mark_word(parts[1]) else None
