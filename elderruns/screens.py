"""Screens: parts that are run again and again, and the handlers that are kept of their runs."""

from elderruns.errors import NothingToUndo
from elderruns.fresh import Fresh
from elderruns.parts import caught_names
from elderruns.runs import check_batch, check_event, first_run, handlers_of, run_behind, stands
from elderruns.signs import reckon


def is_as_made(part, one, held):
    """Return True if a slot as it is kept does the same as one that is made of some integers."""
    slot = one.slot
    if slot.many == 0:
        return one.worth == reckon(slot.value.signs, held, {}, 0)
    if stands(one, caught_names(slot), held):
        return True
    fresh = Fresh(part)
    return fresh.moves_of(slot, one.caught) == fresh.moves_of(slot, held)


def is_right_run(part, run):
    """Return True if all slots are right in a run.

    Each slot is compared with one that is made of the memos of this very run. As long as those
    ahead of it are right, they are the memos of the fresh part.
    """
    return all([is_as_made(part, one, run.held) for one in run.kept])


def marks_of(run):
    """Return what tells the slots of a run as they are kept: integers of memos, and what handlers caught."""
    return [one.worth if one.slot.many == 0 else one.caught for one in run.kept]


class Kept:
    """A handler of a screen, as it was made in a run; it never changes."""

    def __init__(self, screen, part, made):
        self._screen = screen
        self._part = part
        self._made = made

    def __call__(self, argument=0):
        return self._screen.fire(self._made, argument)

    @property
    def run(self):
        """The index of the run in which it was made, among those that were not taken back then."""
        return self._made.since

    def __eq__(self, other):
        return (isinstance(other, Kept) and self._part == other._part
                and self._made.slot.name == other._made.slot.name and self._made.caught == other._made.caught)


class Screen:
    """A screen on which a part is run, at first once, then behind each batch.

    The runs that were not taken back stand in a list, and in another one whether each of them is
    right. This is found with the run, so that the property has only to look it up.
    """

    def __init__(self, part):
        self._part = part
        self._runs = []
        self._rights = []
        self._go_on(first_run(part, False))

    def _go_on(self, run):
        """Go on to a run, and return the list that is shown in it."""
        right = is_right_run(self._part, run)
        self._runs.append(run)
        self._rights.append(right)
        return list(run.shows)

    def __call__(self, name, argument=0):
        return self.batch([(name, argument)])

    def batch(self, events):
        """Do a batch by the handlers of the latest run, and return the list that is shown behind it."""
        check_batch(self._part, 0, events)
        latest = self._runs[-1]
        return self._go_on(run_behind(self._part, latest, handlers_of(self._part, latest, events), False))

    def fire(self, one, argument):
        """Do a batch of one event by a handler as it was made, and return the list that is shown behind it."""
        check_event(self._part, one.slot.name, argument)
        return self._go_on(run_behind(self._part, self._runs[-1], [(one, argument)], False))

    def undo(self):
        """Take back the latest batch, or raise NothingToUndo."""
        if len(self._runs) == 1:
            raise NothingToUndo(0)
        self._runs.pop()
        self._rights.pop()

    def __getitem__(self, at):
        one = self._runs[-1].kept[self._part.place_of(at)]
        if one.slot.many == 0:
            return one.worth
        return Kept(self, self._part, one)

    def __iter__(self):
        raise TypeError("a screen is not iterated over")

    @property
    def cells(self):
        """The list of what the cells hold."""
        return [self._runs[-1].present[name] for name, _ in self._part.cells]

    @property
    def shown(self):
        """The list that is shown."""
        return list(self._runs[-1].shows)

    @property
    def is_right(self):
        """True if all slots are right in the latest run, otherwise False."""
        return self._rights[-1]

    @property
    def runs(self):
        """The number of runs that were not taken back."""
        return len(self._runs)

    def __eq__(self, other):
        return (isinstance(other, Screen) and self._part == other._part
                and self._runs[-1].present == other._runs[-1].present
                and marks_of(self._runs[-1]) == marks_of(other._runs[-1]))
