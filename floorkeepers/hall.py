"""A hall: a house in which moves are done, taken back and done again."""

from floorkeepers.errors import CannotDo, Nothing, Wrong
from floorkeepers.forms import is_house, is_state
from floorkeepers.moves import can_do, done, entry_of


class Hall:
    """A house, its state at first, and the moves that were done since."""

    def __init__(self, house, state):
        if not is_house(house):
            raise Wrong(0)
        if not is_state(house, state):
            raise Wrong(1)
        self._house = house
        self._first = state
        self._moves = []
        self._states = [state]
        self._undone = []

    def __eq__(self, other):
        return (isinstance(other, Hall) and self._house == other._house
                and self._first == other._first and self._moves == other._moves)

    def do(self, move):
        """Do a move; return where its thing was found."""
        if not can_do(self._house, self.state(), move):
            raise CannotDo(len(self._moves))
        found = self.state()[move[1]]
        self._step(move)
        self._undone = []
        return found

    def _step(self, move):
        self._states.append(done(self._house, self.state(), move))
        self._moves.append(move)

    def state(self):
        """The state now."""
        return self._states[-1]

    def run(self):
        """The moves that were done."""
        return tuple(self._moves)

    def log(self):
        """The log of what was done."""
        return tuple([entry_of(self._house, state, move) for state, move in zip(self._states, self._moves)])

    def back(self):
        """Take the last move back."""
        if len(self._moves) == 0:
            raise Nothing()
        self._undone.append(self._moves.pop())
        self._states.pop()

    def again(self):
        """Do once more what was taken back last."""
        if len(self._undone) == 0:
            raise Nothing()
        self._step(self._undone.pop())

    def twin(self):
        """An independent hall with all this."""
        other = Hall(self._house, self._first)
        other._moves = list(self._moves)
        other._states = list(self._states)
        other._undone = list(self._undone)
        return other
