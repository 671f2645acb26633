"""The fresh part of a part: what it makes, does and shows, whatever the cells hold.

What the cells hold is told by a place: its index in the ascending list of all that they can hold.
"""

from elderruns.signs import reckon, reckon_all


def all_holdings(cells):
    """Return the ascending list of all that cells can hold, as tuples."""
    found = [()]
    for _, size in cells:
        found = [held + (n,) for held in found for n in range(size)]
    return found


class FreshRun:
    """A run of the fresh part; it never changes.

    `held` is the dict of the integers of all cells and memos. `made` has for each slot what tells
    it from unlike ones: the integer of a memo, or the moves of a handler for each argument. The
    move of an event is the list of the places behind it, by the place of what the cells hold now.
    `moves` is the list of the moves of all events of the part, in order.
    """

    def __init__(self, held, made, moves):
        self.held = held
        self.made = made
        self.moves = moves


class Fresh:
    """The fresh part of a part. Its runs are worked out when they are asked for, each once.

    Nothing is worked out for other places, since where no row leads integers may be very long.
    """

    def __init__(self, part):
        self.part = part
        self.holdings = all_holdings(part.cells)
        self.places = {held: place for place, held in enumerate(self.holdings)}
        self.columns = {name: [held[k] for held in self.holdings] for k, (name, _) in enumerate(part.cells)}
        self.events = [(name, argument) for name, many in part.handlers for argument in range(many)]
        self._runs = {}
        self._shown = {}

    def run_at(self, place):
        """Return the run in which the cells hold what has this place."""
        if place not in self._runs:
            self._runs[place] = self._worked_out(place)
        return self._runs[place]

    def _worked_out(self, place):
        held = {name: column[place] for name, column in self.columns.items()}
        made = []
        moves = []
        for slot in self.part.built:
            if slot.many == 0:
                held[slot.name] = reckon(slot.value.signs, held, {}, 0)
                made.append(held[slot.name])
            else:
                made.append(self.moves_of(slot, held))
                moves.extend(made[-1])
        return FreshRun(held, made, moves)

    def moves_of(self, slot, caught):
        """Return the moves of a handler that caught some integers, for each argument."""
        many = len(self.holdings)
        present = {name: column * slot.many for name, column in self.columns.items()}
        arguments = [argument for argument in range(slot.many) for _ in range(many)]
        sizes = dict(self.part.cells)
        for cell, value in slot.puts:
            column = reckon_all(value.signs, caught, present, arguments)
            present[cell] = [n % sizes[cell] for n in column]
        behind = [0] * len(arguments)
        for name, size in self.part.cells:
            behind = [place * size + n for place, n in zip(behind, present[name])]
        return [behind[first:first + many] for first in range(0, len(behind), many)]

    def shown_at(self, place):
        """Return the list of what is shown in the run with a place."""
        if place not in self._shown:
            held = self.run_at(place).held
            self._shown[place] = [reckon(value.signs, held, {}, 0) for value in self.part.showing]
        return list(self._shown[place])

    def next_places(self, place):
        """Return for each event the place of the run behind a batch of this event."""
        return [move[place] for move in self.run_at(place).moves]
