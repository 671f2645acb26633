"""A text that is read from its first character on, piece by piece."""

from elderruns.errors import Unreadable


class Reader:
    """A text, the place up to which it is read, and the number of signs in the value that is being read."""

    def __init__(self, text):
        self.text = text
        self.place = 0
        self.counted = 0

    def takes(self, word):
        """Read a word if what is left begins with it, and return True if it does."""
        found = self.text.startswith(word, self.place)
        if found:
            self.place = self.place + len(word)
        return found

    def take(self, word):
        """Read a word, or raise Unreadable if what is left does not begin with it."""
        if not self.takes(word):
            raise Unreadable(self.text)

    def comes(self, first, last):
        """Return True if the next character is one from the first to the last one."""
        return self.place < len(self.text) and first <= self.text[self.place] <= last

    def take_all(self, first, last):
        """Read and return all that comes of such characters, or raise Unreadable if there is none."""
        begun = self.place
        while self.comes(first, last):
            self.place = self.place + 1
        if self.place == begun:
            raise Unreadable(self.text)
        return self.text[begun:self.place]

    def count_sign(self, most):
        """Count one more sign, or raise Unreadable if these are too many."""
        self.counted = self.counted + 1
        if self.counted > most:
            raise Unreadable(self.text)
