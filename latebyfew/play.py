"""The moves of the driver and the answers of the foe: what can come of them, and what positions are worth."""

from latebyfew.towns import COST, LONGEST, OPEN, PENALTY, SERVICE, SHUT, USUAL, legs_by_ends, place_row
from latebyfew.values import greatest_number, is_integer, least_number, sum_or_none

# The positions of the parts of what can come of a move: the deed, what is paid, and the position that follows.
DEED = 0
PAID = 1
AFTER = 2


class Game:
    """The game in a town; the values of positions are kept once they are found."""

    def __init__(self, town):
        self._town = town
        self._legs = legs_by_ends(town)
        self._worth = {}

    def moves(self, position):
        """The ascending tuple of the moves."""
        place, wishes = position[0], position[3]
        found = [wish for wish in wishes if (place, wish) in self._legs]
        return tuple([0] + found if place == 0 or (place, 0) in self._legs else found)

    def has_move(self, position, thing):
        """Whether any value is a move of the position."""
        return is_integer(thing) and thing in self.moves(position)

    def answers(self, position, move):
        """The answers to a move that are possible, the usual one first."""
        if position[0] == 0 and move == 0:
            return ("",)
        return ("usual", "late") if position[2] > 0 else ("usual",)

    def arrival(self, position, move, answer):
        """When the van that drives arrives."""
        leg = self._legs[(position[0], move)]
        return position[1] + (leg[LONGEST] if answer == "late" else leg[USUAL])

    def outcomes(self, position, move, answer):
        """What can come of a move and its answer, by what the driver does: triples (deed, paid, position).

        The position is None, and the deed "", if the day is over. Nothing can come of a day that is lost.
        """
        place, _, budget, wishes = position
        penalties = sum([place_row(self._town, wish)[PENALTY] for wish in wishes])
        if answer == "":
            return [("", penalties, None)]
        arrival = self.arrival(position, move, answer)
        price = self._legs[(place, move)][COST]
        if move == 0:
            return [("", price + penalties, None)] if arrival <= self._town[2] else []
        row = place_row(self._town, move)
        left = budget - 1 if answer == "late" else budget
        rest = tuple([wish for wish in wishes if wish != move])
        found = [("pass", price + row[PENALTY], (move, arrival, left, rest))]
        if arrival <= row[SHUT]:
            found.append(("serve", price, (move, max(row[OPEN], arrival) + row[SERVICE], left, rest)))
        return found

    def outcome(self, position, move, answer, deed):
        """What comes of a move and its answer by that deed; None if it is not possible, or the day is lost."""
        for found in self.outcomes(position, move, answer):
            if found[DEED] == deed:
                return found
        return None

    def value(self, position):
        """The value of a position; None if it has none."""
        if position not in self._worth:
            found = [self.value_of_move(position, move) for move in self.moves(position)]
            self._worth[position] = least_number(found)
        return self._worth[position]

    def value_of_move(self, position, move):
        """What is paid at most if the driver makes the move and goes on as well as possible; None if it can be lost."""
        return greatest_number([self.value_of_answer(position, move, answer)
                                for answer in self.answers(position, move)])

    def value_of_answer(self, position, move, answer):
        """The same, with the answer known."""
        return least_number([self.value_of_outcome(found) for found in self.outcomes(position, move, answer)])

    def value_of_outcome(self, found):
        """What is paid, and the value of the position that follows; None if it has none."""
        return found[PAID] if found[AFTER] is None else sum_or_none(found[PAID], self.value(found[AFTER]))

    def best_move(self, position):
        """A move with the value of the position, which has one or more moves."""
        least = self.value(position)
        return [move for move in self.moves(position) if self.value_of_move(position, move) == least][0]

    def best_outcome(self, position, move, answer):
        """What comes of the best that the driver can do; None if the day is lost."""
        least = self.value_of_answer(position, move, answer)
        for found in self.outcomes(position, move, answer):
            if self.value_of_outcome(found) == least:
                return found
        return None

    def worst_answer(self, position, move):
        """An answer with the value of the move."""
        greatest = self.value_of_move(position, move)
        answers = self.answers(position, move)
        return [answer for answer in answers if self.value_of_answer(position, move, answer) == greatest][0]
