"""A loom: a word that is hung longer, dropped shorter and exchanged, and each deed taken back."""

from braidcomb.counts import rings
from braidcomb.errors import NoMove
from braidcomb.forms import form
from braidcomb.moves import move_back, moved
from braidcomb.words import checked


class Loom:
    """A word of n strings, and for each deed what takes it back."""

    def __init__(self, n):
        checked(n, [])
        self.n = n
        self.held = []
        self.backs = []

    def hang(self, word):
        """Put a word behind the word."""
        checked(self.n, word)
        self.backs.append(("cut", len(self.held)))
        self.held = self.held + word

    def drop(self, many):
        """Take so many crossings from the end of the word."""
        if many < 0 or many > len(self.held):
            raise NoMove("there are not so many crossings to drop")
        left = len(self.held) - many
        self.backs.append(("join", self.held[left:]))
        self.held = self.held[:left]

    def go(self, move):
        """Do an exchange."""
        # What is refused is refused here, ahead of any change.
        back = move_back(self.n, self.held, move)
        self.backs.append(("go", back))
        self.held = moved(self.n, self.held, move)

    def undo(self):
        """Take the last deed back and be True; be False where there is none."""
        if len(self.backs) == 0:
            return False
        back = self.backs.pop()
        if back[0] == "cut":
            self.held = self.held[:back[1]]
        elif back[0] == "join":
            self.held = self.held + back[1]
        else:
            self.held = moved(self.n, self.held, back[1])
        return True

    def now(self):
        """Tell the word."""
        return list(self.held)

    def form_now(self):
        """Tell the form of the word."""
        return form(self.n, self.held)

    def rings_now(self):
        """Tell the rings of the word."""
        return rings(self.n, self.held)
