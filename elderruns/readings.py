"""Values and parts that are read from their texts.

What is read is shown again and compared with the text. So texts that tell the same in another way (a
zero too many ahead, a list in another order) and texts with something behind are found in one place.
"""

from elderruns.errors import RunError, Unreadable
from elderruns.parts import Part, handler, memo
from elderruns.reader import Reader
from elderruns.signs import SIGNS
from elderruns.texts import show_part, show_value
from elderruns.values import divided, joined, named, now, number, passed

MOST_SIGNS = 12
MOST_DIGITS = 20
MOST_SIZE_DIGITS = 3


def read_value(text):
    """Return the value with a text."""
    try:
        value = value_in(Reader(text))
    except RunError:
        raise Unreadable(text) from None
    check_shown(show_value(value), text)
    return value


def read_part(text):
    """Return the part with a text."""
    try:
        part = part_in(Reader(text))
    except RunError:
        raise Unreadable(text) from None
    check_shown(show_part(part), text)
    return part


def check_shown(shown, text):
    """Raise Unreadable if what was read from a text is shown by another one."""
    if shown != text:
        raise Unreadable(text)


def name_in(reader):
    """Read a name; how many letters it has is checked where it is used."""
    return reader.take_all("a", "z")


def integer_in(reader, most):
    """Read an integer of at most some digits."""
    sign = -1 if reader.takes("-") else 1
    digits = reader.take_all("0", "9")
    if len(digits) > most:
        raise Unreadable(reader.text)
    return sign * int(digits)


def value_in(reader):
    """Read a value that stands in no other one."""
    reader.counted = 0
    return operand_in(reader)


def operand_in(reader):
    """Read a value; since its signs are counted, no text leads deeper than there may be signs."""
    if reader.takes("("):
        return joined_in(reader)
    if reader.takes("~"):
        reader.count_sign(MOST_SIGNS)
        return ~operand_in(reader)
    if reader.takes("!"):
        return now(name_in(reader))
    if reader.takes("?"):
        return passed()
    if reader.comes("a", "z"):
        return named(name_in(reader))
    return number(integer_in(reader, MOST_DIGITS))


def joined_in(reader):
    """Read what stands behind an opening bracket, up to the closing one."""
    reader.count_sign(MOST_SIGNS)
    one = operand_in(reader)
    sign = sign_in(reader)
    if sign in ("//", "mod"):
        value = divided(one, sign, integer_in(reader, MOST_DIGITS))
    else:
        value = joined(one, sign, operand_in(reader))
    reader.take(")")
    return value


def sign_in(reader):
    """Read a sign between two values, with the spaces around it."""
    for sign in SIGNS:
        if reader.takes(f" {sign} "):
            return sign
    raise Unreadable(reader.text)


def part_in(reader):
    """Read a part."""
    reader.take("cells")
    cells = []
    while reader.takes(" "):
        cells.append(sized_in(reader))
    slots = []
    while not reader.takes("; show"):
        slots.append(slot_in(reader))
    shown = []
    while reader.takes(" "):
        shown.append(value_in(reader))
    return Part(cells, slots, shown)


def sized_in(reader):
    """Read a name with a size or a number of arguments behind it."""
    name = name_in(reader)
    reader.take(":")
    return name, integer_in(reader, MOST_SIZE_DIGITS)


def slot_in(reader):
    """Read a slot, with what divides it from what is ahead."""
    if reader.takes("; memo "):
        name = name_in(reader)
        reader.take(" ")
        value = value_in(reader)
        return memo(name, value, list_in(reader))
    reader.take("; on ")
    name, many = sized_in(reader)
    puts = puts_in(reader)
    return handler(name, many, puts, list_in(reader))


def puts_in(reader):
    """Read the puts of a handler."""
    reader.take(" {")
    puts = []
    while not reader.takes("}"):
        if len(puts) > 0:
            reader.take(", ")
        cell = name_in(reader)
        reader.take(" < ")
        puts.append((cell, value_in(reader)))
    return puts


def list_in(reader):
    """Read the list of a slot."""
    reader.take(" [")
    names = []
    while not reader.takes("]"):
        if len(names) > 0:
            reader.take(" ")
        names.append(name_in(reader))
    return names
