"""Labels of paths, and closed tables of them, whatever each leg adds to the cost."""

from latebyfew.rounds import are_ascending_places
from latebyfew.sure import next_row
from latebyfew.towns import BRING, FETCH, SHUT, legs_by_ends, place_row
from latebyfew.values import is_count, is_count_row, is_integer

# The positions of the parts of a label, and how many there are.
LAST = 0
VISITED = 1
TIMES = 2
FETCHED = 3
LOAD = 4
GAINED = 5
LABEL_PARTS = 6


def is_label_row(town, g, thing):
    """Whether any value has the form of a label."""
    if not isinstance(thing, tuple) or len(thing) != LABEL_PARTS:
        return False
    last, visited, times, fetched, load, gained = thing
    if not are_ascending_places(town, visited) or not is_integer(last) or last not in visited:
        return False
    if not is_count_row(times, g + 1) or not all([times[j] <= times[j + 1] for j in range(g)]):
        return False
    return is_count(fetched) and is_count(load) and fetched <= load and is_integer(gained)


def dominates(one, other):
    """Whether a label dominates another one."""
    if one[LAST] != other[LAST] or one[GAINED] > other[GAINED]:
        return False
    if one[FETCHED] > other[FETCHED] or one[LOAD] > other[LOAD]:
        return False
    if not all([place in other[VISITED] for place in one[VISITED]]):
        return False
    return all([mine <= yours for mine, yours in zip(one[TIMES], other[TIMES])])


class Growth:
    """How labels grow from a start, by what each leg adds to the cost."""

    def __init__(self, town, start, added, is_strict):
        """start is the label of no place yet; added has a number for the ends of each leg that may be driven.

        If is_strict, a label dominates only labels with the same visited places.
        """
        self._town = town
        self._start = start
        self._added = added
        self._is_strict = is_strict
        self._legs = legs_by_ends(town)

    def longer(self, label, place):
        """The label of the path with a further place; None if there is no leg to it, or it is not open."""
        last, visited, times, fetched, load, gained = label
        ends = (last, place)
        if place in visited or ends not in self._added:
            return None
        row = place_row(self._town, place)
        further = next_row(self._town, self._legs[ends], times)
        taken = fetched + row[FETCH]
        greatest = max(load + row[BRING], taken)
        if further[-1] > row[SHUT] or greatest > self._town[3]:
            return None
        return (place, tuple(sorted(visited + (place,))), further, taken, greatest, gained + self._added[ends])

    def longer_ones(self, label):
        """The labels of all paths with one further place."""
        found = [self.longer(label, place) for place in range(1, len(self._town[0]) + 1)]
        return [label for label in found if label is not None]

    def along(self, path):
        """The label of a path; None if it is not open."""
        label = self._start
        for place in path:
            label = self.longer(label, place)
            if label is None:
                return None
        return label

    def closed(self, label):
        """The closed cost of a label; None if it cannot be closed."""
        ends = (label[LAST], 0)
        if ends not in self._added:
            return None
        home = next_row(self._town, self._legs[ends], label[TIMES])
        return label[GAINED] + self._added[ends] if home[-1] <= self._town[2] else None

    def closed_ones(self, labels):
        """The closed costs of those of the labels that can be closed."""
        found = [self.closed(label) for label in labels]
        return [number for number in found if number is not None]

    def least_closed(self, pairs):
        """The least closed cost of labels with their paths, and such a path; None if none can be closed."""
        found = [(self.closed(label), path) for label, path in pairs]
        return min([pair for pair in found if pair[0] is not None], default=None)

    def group(self, label):
        """What a label and all that dominate it have in common."""
        return label[:TIMES] if self._is_strict else label[:VISITED]

    def is_covered(self, groups, label):
        """Whether a label of the groups dominates the label."""
        for other in groups.get(self.group(label), []):
            if dominates(other, label):
                return True
        return False

    def is_closed(self, table):
        """Whether a tuple of values with the form of labels is a closed table."""
        groups = {}
        for label in table:
            groups.setdefault(self.group(label), []).append(label)
        for label in (self._start,) + table:
            for further in self.longer_ones(label):
                if not self.is_covered(groups, further):
                    return False
        return True

    def grown(self):
        """The labels of a closed table, each one with a path that it belongs to."""
        groups = {}
        found = [(self._start, ())]
        at = 0
        while at < len(found):
            label, path = found[at]
            for further in self.longer_ones(label):
                if not self.is_covered(groups, further):
                    groups.setdefault(self.group(further), []).append(further)
                    found.append((further, path + (further[LAST],)))
            at += 1
        return found[1:]
