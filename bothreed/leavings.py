"""Patterns and all that is left of them, each told by a number."""

from bothreed.leaving import left_of_each
from bothreed.texts import shown


class Leavings:
    """The patterns met so far, numbered from 0 as they are met, and what is left of them."""

    def __init__(self, letters):
        """No pattern is met yet."""
        self.letters = letters
        self.patterns = []
        # By the text that writes it, as a pattern may be nested too deep to be a key itself.
        self.numbers = {}
        self.steps = {}

    def number_of(self, pattern):
        """The number of a pattern, which is a new one if it has not been met."""
        written = shown(pattern)
        if written not in self.numbers:
            self.numbers[written] = len(self.patterns)
            self.patterns.append(pattern)
        return self.numbers[written]

    def behind(self, number):
        """The numbers of what is left of a pattern behind each letter."""
        if number not in self.steps:
            rests = left_of_each(self.letters, self.patterns[number])
            self.steps[number] = [self.number_of(rest) for rest in rests]
        return self.steps[number]
