"""Counts of what a run does."""


class Counts:
    """Numbers of turns and of additions. They never change."""

    def __init__(self, turns=0, additions=0):
        self.turns = turns
        self.additions = additions

    def __add__(self, other):
        if not isinstance(other, Counts):
            return NotImplemented
        return Counts(self.turns + other.turns, self.additions + other.additions)

    def __iadd__(self, other):
        if not isinstance(other, Counts):
            return NotImplemented
        return Counts(self.turns + other.turns, self.additions + other.additions)

    def __eq__(self, other):
        if not isinstance(other, Counts):
            return NotImplemented
        return (self.turns, self.additions) == (other.turns, other.additions)

    def __lt__(self, other):
        if not isinstance(other, Counts):
            return NotImplemented
        return (self.turns, self.additions) < (other.turns, other.additions)

    def __le__(self, other):
        if not isinstance(other, Counts):
            return NotImplemented
        return (self.turns, self.additions) <= (other.turns, other.additions)

    def __gt__(self, other):
        if not isinstance(other, Counts):
            return NotImplemented
        return (self.turns, self.additions) > (other.turns, other.additions)

    def __ge__(self, other):
        if not isinstance(other, Counts):
            return NotImplemented
        return (self.turns, self.additions) >= (other.turns, other.additions)
