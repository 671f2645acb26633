"""Values: what memos, puts and parts reckon from names, arguments and integers."""

from elderruns.errors import InvalidDivisor
from elderruns.names import check_known, check_name
from elderruns.signs import reckon


def named(name):
    """Return the value of a cell or a memo, in a handler the caught one."""
    check_name(name)
    return Value((("named", name),))


def now(name):
    """Return the value that a cell holds now."""
    check_name(name)
    return Value((("now", name),))


def passed():
    """Return the value that is the argument of the event."""
    return Value((("passed", ""),))


def number(n):
    """Return the value that is an integer."""
    return Value((("number", n),))


def as_value(thing):
    """Return a value as it is, and an integer as the value that is this integer."""
    if isinstance(thing, Value):
        return thing
    return number(thing)


def joined(one, sign, other):
    """Return the value of a sign between two values, of which each may be an integer."""
    return Value(as_value(one).signs + as_value(other).signs + ((sign, ""),))


def divided(value, sign, n):
    """Return the value of a sign between a value and a divisor."""
    if n < 1:
        raise InvalidDivisor(n)
    return joined(value, sign, n)


class Value:
    """A value, which never changes.

    Its signs stand one after the other, each behind the parts that it joins, as tuples of a
    kind and a word. So values that share parts, or are built deep, need no recursion, and
    two values are built alike exactly if their tuples are equal.
    """

    def __init__(self, signs):
        self.signs = signs

    def __add__(self, other):
        return joined(self, "+", other)

    def __radd__(self, other):
        return joined(other, "+", self)

    def __sub__(self, other):
        return joined(self, "-", other)

    def __rsub__(self, other):
        return joined(other, "-", self)

    def __mul__(self, other):
        return joined(self, "*", other)

    def __rmul__(self, other):
        return joined(other, "*", self)

    def __floordiv__(self, other):
        return divided(self, "//", other)

    def rest(self, n):
        """Return the value of what is left by a division, from 0 to n - 1."""
        return divided(self, "mod", n)

    def __and__(self, other):
        return joined(self, "&", other)

    def __rand__(self, other):
        return joined(other, "&", self)

    def __or__(self, other):
        return joined(self, "|", other)

    def __ror__(self, other):
        return joined(other, "|", self)

    def __invert__(self):
        return Value(self.signs + (("~", ""),))

    def same(self, other):
        """Return the value that is 1 if both are equal, otherwise 0."""
        return joined(self, "=", other)

    def less(self, other):
        """Return the value that is 1 if this one is less than the other one, otherwise 0."""
        return joined(self, "<", other)

    @property
    def names(self):
        """The ascending list of the names in `named`, each once."""
        return sorted({word for kind, word in self.signs if kind == "named"})

    @property
    def nows(self):
        """The ascending list of the names in `now`, each once."""
        return sorted({word for kind, word in self.signs if kind == "now"})

    @property
    def has_passed(self):
        """True if the argument of the event stands in the value, otherwise False."""
        return ("passed", "") in self.signs

    def at(self, held, present, argument):
        """Return the integer, for what the names and the cells now stand for, and an argument."""
        check_known(self.names, held)
        check_known(self.nows, present)
        return reckon(self.signs, held, present, argument)

    def __eq__(self, other):
        return isinstance(other, Value) and self.signs == other.signs
