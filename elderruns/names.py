"""What is asked of names: how they are written, and whether they are known."""

from elderruns.errors import InvalidName, UnknownName

MOST_LETTERS = 8


def check_name(name):
    """Raise InvalidName if a name is not one to eight letters from a to z."""
    if not 1 <= len(name) <= MOST_LETTERS:
        raise InvalidName(name)
    for letter in name:
        if not "a" <= letter <= "z":
            raise InvalidName(name)


def check_known(names, known):
    """Raise UnknownName for the first of some names that is none of the known ones."""
    for name in names:
        if name not in known:
            raise UnknownName(name)
