"""Slots and parts: what is kept of runs, beside which lists of names, and what is shown."""

from elderruns.errors import DoubleName, InvalidSize, NotHere, UnknownName
from elderruns.names import check_known, check_name
from elderruns.values import as_value


def memo(name, value, names):
    """Return a slot that keeps the integer of a value."""
    check_name(name)
    return Slot(name, 0, as_value(value), (), tuple(names))


def handler(name, number, puts, names):
    """Return a slot that keeps a function which events call with one of some arguments."""
    check_name(name)
    if number < 1:
        raise InvalidSize(number)
    kept = [(cell, as_value(value)) for cell, value in puts]
    return Slot(name, number, None, tuple(kept), tuple(names))


class Slot:
    """A memo or a handler, with the list of names beside it; it never changes.

    A memo has 0 as its number of arguments, and a value; a handler has puts instead.
    """

    def __init__(self, name, many, value, puts, listed):
        self._name = name
        self.many = many
        self.value = value
        self.puts = puts
        self.listed = listed

    @property
    def name(self):
        """The name of the slot."""
        return self._name

    def listing(self, names):
        """Return the slot with another list of names."""
        return Slot(self._name, self.many, self.value, self.puts, tuple(names))

    def __eq__(self, other):
        return (isinstance(other, Slot) and self._name == other._name and self.many == other.many
                and self.value == other.value and self.puts == other.puts and self.listed == other.listed)


def needs_event(value):
    """Return True if a value stands for something only while an event is done."""
    return value.has_passed or len(value.nows) > 0


def caught_names(slot):
    """Return the ascending list of what a slot names in `named`."""
    if slot.many == 0:
        return slot.value.names
    return sorted({name for _, value in slot.puts for name in value.names})


def touched_names(slot):
    """Return the ascending list of what a handler puts into, or names in `now` (a memo has no puts)."""
    names = [cell for cell, _ in slot.puts]
    for _, value in slot.puts:
        names.extend(value.nows)
    return sorted(set(names))


def names_ahead(cells, slots):
    """Return the names of cells, then those of the memos among some slots."""
    return [name for name, _ in cells] + [slot.name for slot in slots if slot.many == 0]


def check_cells(cells):
    """Raise the first error that is due for the cells of a part."""
    before = []
    for name, size in cells:
        check_name(name)
        if size < 1:
            raise InvalidSize(size)
        check_new(name, before)
        before.append(name)


def check_new(name, before):
    """Raise DoubleName if a name stood before."""
    if name in before:
        raise DoubleName(name)


def check_list(names, known):
    """Raise the first error that is due for the list of a slot."""
    check_known(names, known)
    for place, name in enumerate(names):
        check_new(name, names[:place])


def check_slot(slot, cells, known):
    """Raise the first error that is due for a slot, but for its own name.

    `cells` are the names of the cells, `known` these and the names of the memos ahead.
    """
    check_known(caught_names(slot), known)
    check_known(touched_names(slot), cells)
    if slot.many == 0 and needs_event(slot.value):
        raise NotHere(slot.name)
    check_list(slot.listed, known)


def checked_slots(cells, slots):
    """Return the tuple of slots, with their lists in the order of cells and then slots.

    Raises the first error that is due for the slots of a part with these cells.
    """
    names = names_ahead(cells, [])
    kept = []
    for slot in slots:
        check_new(slot.name, names + [one.name for one in kept])
        known = names_ahead(cells, kept)
        check_slot(slot, names, known)
        kept.append(slot.listing([name for name in known if name in slot.listed]))
    return tuple(kept)


def checked_shown(shown, known):
    """Return the tuple of values that are shown, or raise the first error that is due for them."""
    kept = [as_value(value) for value in shown]
    for index, value in enumerate(kept):
        check_known(value.names, known)
        if needs_event(value):
            raise NotHere(index)
    return tuple(kept)


class Part:
    """A part of a program: cells, slots, and values that it shows; it never changes.

    `built` is the tuple of its slots, `showing` that of the values that it shows. Each slot has
    its list in the order of cells and then slots, so that lists with the same names are equal.
    """

    def __init__(self, cells, slots, shown):
        check_cells(cells)
        self._cells = tuple([(name, size) for name, size in cells])
        self.built = checked_slots(self._cells, slots)
        self.showing = checked_shown(shown, names_ahead(self._cells, self.built))

    @property
    def cells(self):
        """The list of the cells, as tuples of name and size."""
        return list(self._cells)

    @property
    def slots(self):
        """The list of the names of the slots."""
        return [slot.name for slot in self.built]

    @property
    def handlers(self):
        """The list of the handlers, as tuples of name and number of arguments."""
        return [(slot.name, slot.many) for slot in self.built if slot.many > 0]

    def place_of(self, name):
        """Return the index of a slot, or raise UnknownName."""
        for place, slot in enumerate(self.built):
            if slot.name == name:
                return place
        raise UnknownName(name)

    def __getitem__(self, at):
        return list(self.built[self.place_of(at)].listed)

    def __iter__(self):
        raise TypeError("a part is not iterated over")

    def __len__(self):
        return len(self.built)

    def having(self, name, names):
        """Return the part with another list of a slot."""
        place = self.place_of(name)
        slots = list(self.built)
        slots[place] = slots[place].listing(names)
        return Part(self._cells, slots, self.showing)

    def full(self):
        """Return the part in which each list has all cells and all memos ahead."""
        slots = []
        for slot in self.built:
            slots.append(slot.listing(names_ahead(self._cells, slots)))
        return Part(self._cells, slots, self.showing)

    def __eq__(self, other):
        return (isinstance(other, Part) and self._cells == other._cells and self.built == other.built
                and self.showing == other.showing)
